import Derived.Test.YthhpbhpfagoapaaGreatJAA
import Derived.Test.YthhpbhpfagoapaaGreatRTk
import Derived.Test.YthhpbhpfagoapaaGreatJBP
import Derived.Test.YthhpbhpfagoapaaGreatJAL
import Derived.Deep.RegionHeld3
namespace Go.Proofs.YthhpbhpfagoapaaGreat
set_option linter.unusedVariables false
set_option linter.unusedSimpArgs false
set_option maxRecDepth 100000
set_option maxHeartbeats 16000000
open Go.RowKit
section
theorem Re {file:List UInt8} (hgood:PU file) (hfr:¬ file.length < 8+Qv (file.drop (file.length - 4))) {F:Nat} (hF:file.length - 4 - Qv (file.drop (file.length - 4))=F) :
  zQ file=(if (qv (if decide (file.getD 2 0=79)=true then qk ((xC (some ((file.drop F).take (file.length - 4 - F)))).1:Int) (xC (some ((file.drop F).take (file.length - 4 - F)))).2 else ([],some ((file.drop F).take (file.length - 4 - F)))).2).2=some []
   then some ⟨decide (file.getD 2 0=79),(file.getD 3 0).toNat,(file.drop 4).take (F - 4),(if decide (file.getD 2 0=79)=true then qk ((xC (some ((file.drop F).take (file.length - 4 - F)))).1:Int) (xC (some ((file.drop F).take (file.length - 4 - F)))).2 else ([],some ((file.drop F).take (file.length - 4 - F)))).1,(qv (if decide (file.getD 2 0=79)=true then qk ((xC (some ((file.drop F).take (file.length - 4 - F)))).1:Int) (xC (some ((file.drop F).take (file.length - 4 - F)))).2 else ([],some ((file.drop F).take (file.length - 4 - F)))).2).1.1,(qv (if decide (file.getD 2 0=79)=true then qk ((xC (some ((file.drop F).take (file.length - 4 - F)))).1:Int) (xC (some ((file.drop F).take (file.length - 4 - F)))).2 else ([],some ((file.drop F).take (file.length - 4 - F)))).2).1.2⟩ else none):=by
 obtain ⟨h1,h2,h3,h4,h5,h6,h7⟩:=hgood
 have hno:¬ (65000 < file.length∨file.length < 8∨file.take 2≠[67,70]∨file.drop (file.length - 2)≠[67,70]∨(file.getD 2 0≠69∧file.getD 2 0≠79)∨(file.getD 3 0).toNat < 1∨9 < (file.getD 3 0).toNat):=by
  rintro (h|h|h|h|⟨h,h'⟩|h|h)
  ·exact h1 h
  ·exact h2 h
  ·exact h h3
  ·exact h h4
  ·exact h5.elim h h'
  ·exact h6 h
  ·exact h7 h
 unfold zQ
 rw [aj hno,aj hfr]
 simp only [hF]
theorem JU {w:World} {q:Nat} {a b c d e f:Value} {t:TypeId} (h:w.heap[q]?=some (.cells #[a,b,c,d,e,f] t (0,0))):w.cell? ⟨q,0,none⟩=some a∧w.cell? ⟨q,1,none⟩=some b∧w.cell? ⟨q,2,none⟩=some c∧w.cell? ⟨q,3,none⟩=some d∧w.cell? ⟨q,4,none⟩=some e∧w.cell? ⟨q,5,none⟩=some f:=by
 refine ⟨?_,?_,?_,?_,?_,?_⟩<;>rw [cell_of_row w q _ _ _ (0,0) h]<;>rfl
theorem Pg {w:World} {fb:Nat} {a b c d e f x y:Value} {t:TypeId} (h:w.heap[fb]?=some (.cells #[a,b,c,d,e,f] t (0,0))):((w.setCell ⟨fb,4,none⟩ x).setCell ⟨fb,5,none⟩ y).heap[fb]?=some (.cells #[a,b,c,d,x,y] t (0,0)) :=
 heap_setCell_same (w.setCell ⟨fb,4,none⟩ x) fb 5 _ _ y (heap_setCell_same w fb 4 _ _ x h)
theorem Ib (file:List UInt8) (w:World) (hgood:PU file) (hfr:¬ file.length < 8+Qv (file.drop (file.length - 4))) (h5:file.getD 2 0=69) :
  Calls Tryz.prog 88 #[strB file] w (Af file w):=by
 have Hgood:=hid hgood
 obtain ⟨h1,h2,h3,h4,_,h6,h7⟩:=hgood
 obtain ⟨hb0,hl0,_,ho0⟩:=qm w file0 169
 have HB0:=hid hb0
 have Ho0:=hid ho0
 clear hb0 ho0
 have h1i:(file.length:Int)≤65000:=by omega
 have h2i:(8:Int)≤(file.length:Int):=by omega
 have h1d:decide ((65000:Int) < (file.length:Int))=false:=aS (by omega)
 have h2d:decide ((file.length:Int) < 8)=false:=aS (by omega)
 have h3d:(((⟨file.toArray⟩:ByteArray).extract 0 2).toList == [67,70])=true:=by rw [ND];simpa using h3
 have h4d:(((⟨file.toArray⟩:ByteArray).extract (file.length - 2) file.length).toList == [67,70])=true:=by rw [NH];simpa using h4
 have hl2:2 < (⟨file.toArray⟩:ByteArray).size:=by simp [ByteArray.size];omega
 have hl3:3 < (⟨file.toArray⟩:ByteArray).size:=by simp [ByteArray.size];omega
 obtain ⟨b2,hb2⟩:∃ b,file[2]?=some b:=⟨file[2],ay (by omega)⟩
 obtain ⟨b3,hb3⟩:∃ b,file[3]?=some b:=⟨file[3],ay (by omega)⟩
 have g2:file.getD 2 0=b2:=by simp [List.getD,hb2]
 have g3:file.getD 3 0=b3:=by simp [List.getD,hb3]
 have i2:((⟨file.toArray⟩:ByteArray)[2]'hl2).toNat=b2.toNat:=by
  have:=(aA.1 hb2).2
  rw [← this];rfl
 have i3:((⟨file.toArray⟩:ByteArray)[3]'hl3).toNat=b3.toNat:=by
  have:=(aA.1 hb3).2
  rw [← this];rfl
 rw [g3] at h6 h7
 rw [g2] at h5
 have Hg3:=hid g3
 have Hg2:=hid g2
 have h6d:decide ((b3.toNat:Int) < 1)=false:=aS (by omega)
 have h7d:decide ((9:Int) < (b3.toNat:Int))=false:=aS (by omega)
 obtain ⟨y0,hy0⟩:∃ b,file[file.length - 4]?=some b:=⟨file[file.length - 4]'(by omega),ay (by omega)⟩
 obtain ⟨y1,hy1⟩:∃ b,file[file.length - 3]?=some b:=⟨file[file.length - 3]'(by omega),ay (by omega)⟩
 have e0:∀ h,(⟨file.toArray⟩:ByteArray)[file.length - 4]'h=y0:=fun h=>(aA.1 hy0).2
 have e1:∀ h,(⟨file.toArray⟩:ByteArray)[file.length - 3]'h=y1:=fun h=>(aA.1 hy1).2
 have HTN:Hid (Qv (file.drop (file.length - 4))=y0.toNat+256*y1.toNat):=by
  show _=_
  obtain ⟨h0,h0'⟩:=aA.1 hy0
  obtain ⟨h1,h1'⟩:=aA.1 hy1
  rw [aN h0,h0',show file.length - 4+1=file.length - 3 by omega,aN h1,h1']
  rfl
 have l0:y0.toNat < 256:=y0.toNat_lt
 have l1:y1.toNat < 256:=y1.toNat_lt
 have l3:b3.toNat < 256:=b3.toNat_lt
 clear hy0 hy1 hb2 hb3 g2 g3 h1 h2 h3 h4 h6 h7
 have q0:(0:Int)≤(file.length:Int) - 4:=by omega
 have q1:(file.length:Int) - 4 < (file.length:Int):=by omega
 have q2:((file.length:Int) - 4).toNat=file.length - 4:=by omega
 have q3:(0:Int)≤(file.length:Int) - 3:=by omega
 have q4:(file.length:Int) - 3 < (file.length:Int):=by omega
 have q5:((file.length:Int) - 3).toNat=file.length - 3:=by omega
 have w0:IntKind.i64.wrap ((file.length:Int) - 4)=(file.length:Int) - 4:=IntWalk.i64_in _ ⟨by omega,by omega⟩
 have w1:IntKind.i64.wrap ((file.length:Int) - 3)=(file.length:Int) - 3:=IntWalk.i64_in _ ⟨by omega,by omega⟩
 have w2:IntKind.i64.wrap (y0.toNat:Int)=(y0.toNat:Int):=IntWalk.i64_in _ ⟨by omega,by omega⟩
 have w3:IntKind.i64.wrap (y1.toNat:Int)=(y1.toNat:Int):=IntWalk.i64_in _ ⟨by omega,by omega⟩
 have w4:IntKind.i64.wrap (256*(y1.toNat:Int))=256*(y1.toNat:Int):=IntWalk.i64_in _ ⟨by omega,by omega⟩
 have w5:IntKind.i64.wrap ((file.length:Int) - 4 - (y0.toNat:Int))=(file.length:Int) - 4 - (y0.toNat:Int):=IntWalk.i64_in _ ⟨by omega,by omega⟩
 have w6:IntKind.i64.wrap ((file.length:Int) - 4 - (y0.toNat:Int) - 256*(y1.toNat:Int))=(file.length:Int) - 4 - (y0.toNat:Int) - 256*(y1.toNat:Int):=IntWalk.i64_in _ ⟨by omega,by omega⟩
 have w7:IntKind.i64.wrap (b3.toNat:Int)=(b3.toNat:Int):=IntWalk.i64_in _ ⟨by omega,by omega⟩
 have h5a:((b2.toNat:Int) != 69)=false:=by rw [h5];rfl
 have h5c:((b2.toNat:Int) == 79)=false:=by rw [h5];rfl
 rw [HTN.out] at hfr
 obtain ⟨F,hF⟩:∃ F:Nat,F+(y0.toNat+256*y1.toNat)+4=file.length:=⟨file.length - 4 - (y0.toNat+256*y1.toNat),by omega⟩
 have hF4:4≤F:=by omega
 have hFl:F+4≤file.length:=by omega
 have hFe:(file.length:Int) - 4 - (y0.toNat:Int) - 256*(y1.toNat:Int)=(F:Int):=by omega
 have hF4i:(4:Int)≤(F:Int):=by omega
 have hFd:¬ (F:Int) < 4:=by omega
 have hFi:(F:Int)≤(file.length:Int):=by omega
 have HFN:Hid (file.length - 4 - Qv (file.drop (file.length - 4))=F):=by show _=_;rw [HTN.out];omega
 have HFF:Hid (¬ file.length < 8+Qv (file.drop (file.length - 4))):=by rw [HTN.out];exact hfr
 have H5:=hid h5
 clear hfr hF h5
 go_enter Tryz.func88,Tryz.ntmps88
 go_wp2_with fail
 go_quiet (fail)
 have HoN:Hid (((w.alloc (.cells file0 169)).drewN nq).heap[w.heap.size]?=some (.cells file0 169 (0,0))):=Ho0.out
 have HBN:=hid (below_drewN HB0.out nq)
 clear h1d h2d h3d h4d h6d h7d e0 e1 q1 q3 q4 q5 w1 w2 w3 w4 w5 w6 hFe l0 l1 HTN h5a
 generalize hWN:(w.alloc _).drewN nq=WN at *
 clear hWN
 go_upto_region 7 with fail
 have hx4:=Va file 4 F
 have hn2:(2:Int) < (file.length:Int):=by omega
 have hn3:(3:Int) < (file.length:Int):=by omega
 refine wp_region_held_drew (S:=fun _=>True) (by kernel_rfl) trivial (fun hHeld=>?_)
 refine tk 0 (strB file) ?_
 refine tk 1 (.int .u8 (b2.toNat:Int)) ?_
 refine tk 2 (.bool false) ?_
 refine tk 3 (strB file) ?_
 refine tk 4 (.int .u8 (b3.toNat:Int)) ?_
 refine tk 5 (.int .i64 (b3.toNat:Int)) ?_
 refine tk 6 (strB file) ?_
 refine tk 7 (.int .i64 (F:Int)) ?_
 refine tk 8 (strB ((file.drop 4).take (F - 4))) ?_
 refine tk 9 (.agg #[.bool false,.int .i64 (b3.toNat:Int),strB ((file.drop 4).take (F - 4)),Value.string { data:=#[] },Value.string { data:=#[] },Value.string { data:=#[] }]) ?_
 simp only [jA,jB,jC,Act.put,jD,jE,jF]
 refine rd 10 (fun K hK=>?_)
 simp only [jA,jB,jC]
 go_simp
 try go_wp2_with fail
 refine hK.out _ _ trivial (fun hHeld=>?_)
 clear hK K
 try simp only [jA,jB,jC,Act.put,jD,jE,jF]
 refine rd 11 (fun K hK=>?_)
 simp only [jA,jB,jC]
 go_simp
 try go_wp2_with fail
 refine hK.out _ _ trivial (fun hHeld=>?_)
 clear hK K
 refine wpAnyH_done (by kernel_rfl) ?_ _
 clear hHeld
 have HB1:=hid (qe (HBN.out.alloc HBN.out.size (.cells #[.bool false,.int .i64 (b3.toNat:Int),Value.string { data:=((file.drop 4).take (F - 4)).toArray },Value.string { data:=#[] },Value.string { data:=#[] },Value.string { data:=#[] }] 169)))
 have Ho1:Hid ((WN.alloc (.cells #[.bool false,.int .i64 (b3.toNat:Int),Value.string { data:=((file.drop 4).take (F - 4)).toArray },Value.string { data:=#[] },Value.string { data:=#[] },Value.string { data:=#[] }] 169)).drew.heap[w.heap.size]?=some (.cells file0 169 (0,0))):=JK _ HoN.out
 have Hf1:Hid ((WN.alloc (.cells #[.bool false,.int .i64 (b3.toNat:Int),Value.string { data:=((file.drop 4).take (F - 4)).toArray },Value.string { data:=#[] },Value.string { data:=#[] },Value.string { data:=#[] }] 169)).drew.heap[WN.heap.size]?=some (.cells #[.bool false,.int .i64 (b3.toNat:Int),Value.string { data:=((file.drop 4).take (F - 4)).toArray },Value.string { data:=#[] },Value.string { data:=#[] },Value.string { data:=#[] }] 169 (0,0))):=(qm WN #[.bool false,.int .i64 (b3.toNat:Int),Value.string { data:=((file.drop 4).take (F - 4)).toArray },Value.string { data:=#[] },Value.string { data:=#[] },Value.string { data:=#[] }] 169).2.2.2
 have hwN:w.heap.size < WN.heap.size:=(ag.1 HoN.out).1
 clear HoN HBN hx4 hn2 hn3 i2 i3 h5c w7
 generalize hW1:(WN.alloc _).drew=W1 at *
 clear hW1
 generalize WN.heap.size=fb at *
 have hFn:(F:Int)≤(file.length:Int) - 4:=by omega
 have hx5:=Va file F (file.length - 4)
 go_upto_region 9 with fail
 clear hx5
 have HR:Hid (zQ file=if (qv (some ((file.drop F).take (file.length - 4 - F)))).2=some [] then some ⟨false,b3.toNat,(file.drop 4).take (F - 4),[],(qv (some ((file.drop F).take (file.length - 4 - F)))).1.1,(qv (some ((file.drop F).take (file.length - 4 - F)))).1.2⟩ else none):=by
  show _=_
  rw [Re Hgood.out HFF.out HFN.out,Hg2.out,H5.out,Hg3.out]
  rfl
 have HS2:=hid (Vz W1 ((file.drop F).take (file.length - 4 - F)))
 have Hf2:=hid (JK (.cells #[strB ((file.drop F).take (file.length - 4 - F)),.int .i64 0,.bool false] 243) Hf1.out)
 have Ho2:=hid (JK (.cells #[strB ((file.drop F).take (file.length - 4 - F)),.int .i64 0,.bool false] 243) Ho1.out)
 have HB2:=hid (HB1.out.alloc HB1.out.size (.cells #[strB ((file.drop F).take (file.length - 4 - F)),.int .i64 0,.bool false] 243))
 have hfp:fb < W1.heap.size:=(ag.1 Hf1.out).1
 have hpl:((file.drop F).take (file.length - 4 - F)).length≤maxLen:=by
  unfold maxLen
  rw [aq,an]
  omega
 clear HB1 Ho1 Hf1
 generalize (file.drop F).take (file.length - 4 - F)=part at *
 generalize (file.drop 4).take (F - 4)=parts at *
 generalize hW2:W1.alloc _=W2 at *
 clear hW2
 generalize W1.heap.size=p at *
 have c0:W2.cell? ⟨fb,0,none⟩=some (.bool false):=by rw [cell_of_row W2 fb 0 _ _ (0,0) Hf2.out];rfl
 go_wp2_with fail
 clear c0
 refine (Ky p part (some part) W2 hpl HS2.out).mono ?_
 rintro e w3 ⟨rfl,hsp3,hg3⟩
 have HS3:=hid hsp3
 have Hf3:=hid (qp hg3 Hf2.out (by omega))
 have Ho3:=hid (qp hg3 Ho2.out (by omega))
 have HB3:=hid (HB2.out.trans (xI hg3 (by omega) HB2.out.size))
 clear hg3 hsp3
 generalize qv (some part)=x at *
 obtain ⟨⟨non,body⟩,st⟩:=x
 simp only at HR HS3 ⊢
 have c4:w3.cell? ⟨fb,4,none⟩=some (Value.string { data:=#[] }):=by rw [cell_of_row w3 fb 4 _ _ (0,0) Hf3.out];rfl
 have c5:w3.cell? ⟨fb,5,none⟩=some (Value.string { data:=#[] }):=by rw [cell_of_row w3 fb 5 _ _ (0,0) Hf3.out];rfl
 have f4:=frozen_of_row w3 fb 4 _ _ Hf3.out
 have f5:=frozen_of_row w3 fb 5 _ _ Hf3.out
 go_upto_region 13 with fail
 clear c4 c5 f4 f5
 have Hf4:=hid (Pg (x:=strB non) (y:=strB body) Hf3.out)
 have hgs:=ja (Jc w3 fb 4 (strB non)) (Jc (w3.setCell ⟨fb,4,none⟩ (strB non)) fb 5 (strB body))
 have HS4:=hid (xw HS3.out hgs (by omega))
 have Ho4:=hid (qp hgs Ho3.out (by omega))
 have HB4:=hid (HB3.out.trans (xI hgs (by omega) HB3.out.size))
 clear hgs Hf3 HS3 Ho3 HB3
 generalize (w3.setCell _ _).setCell _ _=w4 at *
 obtain ⟨at_,bad,hrow,hat,hst⟩:=HS4.out
 obtain ⟨⟨k0,k1,k2⟩,_⟩:=xt hrow
 have hr6:=(JU Hf4.out)
 obtain ⟨g0,g1,g2,g3,g4,g5⟩:=hr6
 clear hrow
 cases bad with
 | true =>
  have HR2:Hid (zQ file=none):=by
   show _=_
   rw [HR.out,hst]
   rfl
  refine wp_region_held_drew (S:=fun w'=>w'.heap[fb]?=some (.cells #[.bool false,.int .i64 (b3.toNat:Int),Value.string { data:=parts.toArray },Value.string { data:=#[] },strB non,strB body] 169 (0,0))∧w'.cell? ⟨p,0,none⟩=some (strB part)∧w'.cell? ⟨p,1,none⟩=some (.int .i64 (at_:Int))∧w'.cell? ⟨p,2,none⟩=some (.bool true)) (by kernel_rfl) ⟨Hf4.out,k0,k1,k2⟩ (fun hHeld=>?_)
  refine wpAnyH_take (i:=0) (oi:=_) (v:=.agg #[.bool false,.int .i64 (b3.toNat:Int),Value.string { data:=parts.toArray },Value.string { data:=#[] },strB non,strB body]) rfl (by kernel_rfl) (by kernel_rfl) (by kernel_rfl) (fun _ _ _ h=>h) (Or.inl ⟨by kernel_rfl,fun w hSw=>?_⟩) (by assumption) ?_
  ·have hrl:=run_loadVar_row (P:=Tryz.prog) w _ 169 169 #[.bool false,.int .i64 (b3.toNat:Int),Value.string { data:=parts.toArray },Value.string { data:=#[] },strB non,strB body] (0,0) _ hSw.1 Tryz.underlying169 rfl (by kernel_rfl)
   unfold execOp
   simp [bj,aO,Act.eval,Instr.loadAt,Instr.sureAddr,bQ,bP,bu,hrl]
  simp only [jA,jB,jC,Act.put,jD,jE,jF]
  refine tk 1 (.pointer (some ⟨p,0,none⟩)) ?_
  refine tk 2 (.pointer (some ⟨p,0,none⟩)) ?_
  refine tk 3 (.pointer (some ⟨p,2,none⟩)) ?_
  refine tk 4 (.bool true) ?_
  refine tk 5 (.bool false) ?_
  refine tk 6 (.bool false) ?_
  refine tu 7 ?_
  refine tu 8 ?_
  refine tu 9 ?_
  refine tu 10 ?_
  refine tu 11 ?_
  refine tu 12 ?_
  refine tu 13 ?_
  refine tu 14 ?_
  refine tu 15 ?_
  refine tu 16 ?_
  refine tk 17 (.bool false) ?_
  simp only [jA,jB,jC,Act.put,jD,jE,jF]
  refine rd 18 (fun K hK=>?_)
  simp only [jA,jB,jC]
  rw [aw (by simp [Region.wanted])]
  refine wp_store_row 169 (.tmp 2) (.tmp 96) rfl w.heap.size #[.bool false,.int .i64 (b3.toNat:Int),Value.string { data:=parts.toArray },Value.string { data:=#[] },strB non,strB body] rfl rfl 169 file0 Ho4.out (by kernel_rfl) rfl (by simp [Value.oneCell']) ?_
  have hgr:=QN w4.drew w.heap.size #[.bool false,.int .i64 (b3.toNat:Int),Value.string { data:=parts.toArray },Value.string { data:=#[] },strB non,strB body]
  have Hf5:=hid (qp hgr (show w4.drew.heap[fb]?=_ from Hf4.out) (by omega))
  have Hoend:=hid (setRow_heap w4.drew w.heap.size _ #[.bool false,.int .i64 (b3.toNat:Int),Value.string { data:=parts.toArray },Value.string { data:=#[] },strB non,strB body] 169 (0,0) (show w4.drew.heap[w.heap.size]?=_ from Ho4.out))
  have HBend:=hid ((qe HB4.out).trans (xI hgr (ae _) HB4.out.size))
  have j0:(w4.drew.setRow w.heap.size #[.bool false,.int .i64 (b3.toNat:Int),Value.string { data:=parts.toArray },Value.string { data:=#[] },strB non,strB body]).cell? ⟨p,0,none⟩=some (strB part):=(World.cell?_of_block (setRow_other w4.drew w.heap.size p #[.bool false,.int .i64 (b3.toNat:Int),Value.string { data:=parts.toArray },Value.string { data:=#[] },strB non,strB body] (by omega))).trans k0
  have j1:(w4.drew.setRow w.heap.size #[.bool false,.int .i64 (b3.toNat:Int),Value.string { data:=parts.toArray },Value.string { data:=#[] },strB non,strB body]).cell? ⟨p,1,none⟩=some (.int .i64 (at_:Int)):=(World.cell?_of_block (setRow_other w4.drew w.heap.size p #[.bool false,.int .i64 (b3.toNat:Int),Value.string { data:=parts.toArray },Value.string { data:=#[] },strB non,strB body] (by omega))).trans k1
  have j2:(w4.drew.setRow w.heap.size #[.bool false,.int .i64 (b3.toNat:Int),Value.string { data:=parts.toArray },Value.string { data:=#[] },strB non,strB body]).cell? ⟨p,2,none⟩=some (.bool true):=(World.cell?_of_block (setRow_other w4.drew w.heap.size p #[.bool false,.int .i64 (b3.toNat:Int),Value.string { data:=parts.toArray },Value.string { data:=#[] },strB non,strB body] (by omega))).trans k2
  refine hK.out _ _ ⟨Hf5.out,j0,j1,j2⟩ (fun hHeld=>?_)
  clear hK K
  try simp only [jA,jB,jC,Act.put,jD,jE,jF]
  refine tk 19 (.bool false) ?_
  simp only [jA,jB,jC,Act.put,jD,jE,jF]
  refine wpAnyH_done (by kernel_rfl) ?_ _
  clear hHeld j0 j1 j2
  generalize w4.drew.setRow _ _=w5 at *
  go_wp2
  exact bodyPost_ret (v:=.tuple #[.agg #[.bool false,.int .i64 (b3.toNat:Int),Value.string { data:=parts.toArray },Value.string { data:=#[] },strB non,strB body],.bool false]) (qt (p:=2) (q:=3) rfl _ _ _ _ _ rfl rfl (run_loadVar_row (P:=Tryz.prog) w5 w.heap.size 169 169 #[.bool false,.int .i64 (b3.toNat:Int),Value.string { data:=parts.toArray },Value.string { data:=#[] },strB non,strB body] (0,0) _ Hoend.out Tryz.underlying169 rfl (by kernel_rfl))) rfl ⟨HBend.out,.inl ⟨HR2.out,_,⟨by rfl,by simp [Value.oneCell']⟩,rfl⟩⟩
 | false =>
  simp only [bl,bU] at hst
  by_cases hae:at_=part.length
  ·have HR2:Hid (zQ file=some ⟨false,b3.toNat,parts,[],non,body⟩):=by
    show _=_
    rw [HR.out,hst,hae,List.drop_length,aw rfl]
   have hbq:((at_:Int) == (part.length:Int))=true:=by rw [cI];omega
   refine wp_region_held_drew (S:=fun w'=>w'.heap[fb]?=some (.cells #[.bool false,.int .i64 (b3.toNat:Int),Value.string { data:=parts.toArray },Value.string { data:=#[] },strB non,strB body] 169 (0,0))∧w'.cell? ⟨p,0,none⟩=some (strB part)∧w'.cell? ⟨p,1,none⟩=some (.int .i64 (at_:Int))∧w'.cell? ⟨p,2,none⟩=some (.bool false)) (by kernel_rfl) ⟨Hf4.out,k0,k1,k2⟩ (fun hHeld=>?_)
   refine wpAnyH_take (i:=0) (oi:=_) (v:=.agg #[.bool false,.int .i64 (b3.toNat:Int),Value.string { data:=parts.toArray },Value.string { data:=#[] },strB non,strB body]) rfl (by kernel_rfl) (by kernel_rfl) (by kernel_rfl) (fun _ _ _ h=>h) (Or.inl ⟨by kernel_rfl,fun w hSw=>?_⟩) (by assumption) ?_
   ·have hrl:=run_loadVar_row (P:=Tryz.prog) w _ 169 169 #[.bool false,.int .i64 (b3.toNat:Int),Value.string { data:=parts.toArray },Value.string { data:=#[] },strB non,strB body] (0,0) _ hSw.1 Tryz.underlying169 rfl (by kernel_rfl)
    unfold execOp
    simp [bj,aO,Act.eval,Instr.loadAt,Instr.sureAddr,bQ,bP,bu,hrl]
   simp only [jA,jB,jC,Act.put,jD,jE,jF]
   refine tk 1 (.pointer (some ⟨p,0,none⟩)) ?_
   refine tk 2 (.pointer (some ⟨p,0,none⟩)) ?_
   refine tk 3 (.pointer (some ⟨p,2,none⟩)) ?_
   refine tk 4 (.bool false) ?_
   refine tk 5 (.bool true) ?_
   refine tk 6 (.bool true) ?_
   refine tk 7 (.pointer (some ⟨p,0,none⟩)) ?_
   refine tk 8 (.pointer (some ⟨p,0,none⟩)) ?_
   refine tk 9 (.pointer (some ⟨p,1,none⟩)) ?_
   refine tk 10 (.int .i64 (at_:Int)) ?_
   refine tk 11 (.pointer (some ⟨p,0,none⟩)) ?_
   refine tk 12 (.pointer (some ⟨p,0,none⟩)) ?_
   refine tk 13 (.pointer (some ⟨p,0,none⟩)) ?_
   refine tk 14 (strB part) ?_
   refine tk 15 (.int .i64 (part.length:Int)) ?_
   refine tk 16 (.bool true) ?_
   refine tk 17 (.bool true) ?_
   simp only [jA,jB,jC,Act.put,jD,jE,jF]
   refine rd 18 (fun K hK=>?_)
   simp only [jA,jB,jC]
   rw [aw (by simp [Region.wanted])]
   refine wp_store_row 169 (.tmp 2) (.tmp 96) rfl w.heap.size #[.bool false,.int .i64 (b3.toNat:Int),Value.string { data:=parts.toArray },Value.string { data:=#[] },strB non,strB body] rfl rfl 169 file0 Ho4.out (by kernel_rfl) rfl (by simp [Value.oneCell']) ?_
   have hgr:=QN w4.drew w.heap.size #[.bool false,.int .i64 (b3.toNat:Int),Value.string { data:=parts.toArray },Value.string { data:=#[] },strB non,strB body]
   have Hf5:=hid (qp hgr (show w4.drew.heap[fb]?=_ from Hf4.out) (by omega))
   have Hoend:=hid (setRow_heap w4.drew w.heap.size _ #[.bool false,.int .i64 (b3.toNat:Int),Value.string { data:=parts.toArray },Value.string { data:=#[] },strB non,strB body] 169 (0,0) (show w4.drew.heap[w.heap.size]?=_ from Ho4.out))
   have HBend:=hid ((qe HB4.out).trans (xI hgr (ae _) HB4.out.size))
   have j0:(w4.drew.setRow w.heap.size #[.bool false,.int .i64 (b3.toNat:Int),Value.string { data:=parts.toArray },Value.string { data:=#[] },strB non,strB body]).cell? ⟨p,0,none⟩=some (strB part):=(World.cell?_of_block (setRow_other w4.drew w.heap.size p #[.bool false,.int .i64 (b3.toNat:Int),Value.string { data:=parts.toArray },Value.string { data:=#[] },strB non,strB body] (by omega))).trans k0
   have j1:(w4.drew.setRow w.heap.size #[.bool false,.int .i64 (b3.toNat:Int),Value.string { data:=parts.toArray },Value.string { data:=#[] },strB non,strB body]).cell? ⟨p,1,none⟩=some (.int .i64 (at_:Int)):=(World.cell?_of_block (setRow_other w4.drew w.heap.size p #[.bool false,.int .i64 (b3.toNat:Int),Value.string { data:=parts.toArray },Value.string { data:=#[] },strB non,strB body] (by omega))).trans k1
   have j2:(w4.drew.setRow w.heap.size #[.bool false,.int .i64 (b3.toNat:Int),Value.string { data:=parts.toArray },Value.string { data:=#[] },strB non,strB body]).cell? ⟨p,2,none⟩=some (.bool false):=(World.cell?_of_block (setRow_other w4.drew w.heap.size p #[.bool false,.int .i64 (b3.toNat:Int),Value.string { data:=parts.toArray },Value.string { data:=#[] },strB non,strB body] (by omega))).trans k2
   refine hK.out _ _ ⟨Hf5.out,j0,j1,j2⟩ (fun hHeld=>?_)
   clear hK K
   try simp only [jA,jB,jC,Act.put,jD,jE,jF]
   refine tk 19 (.bool true) ?_
   simp only [jA,jB,jC,Act.put,jD,jE,jF]
   refine wpAnyH_done (by kernel_rfl) ?_ _
   clear hHeld j0 j1 j2
   generalize w4.drew.setRow _ _=w5 at *
   go_wp2
   exact bodyPost_ret (v:=.tuple #[.agg #[.bool false,.int .i64 (b3.toNat:Int),Value.string { data:=parts.toArray },Value.string { data:=#[] },strB non,strB body],.bool true]) (qt (p:=2) (q:=3) rfl _ _ _ _ _ rfl rfl (run_loadVar_row (P:=Tryz.prog) w5 w.heap.size 169 169 #[.bool false,.int .i64 (b3.toNat:Int),Value.string { data:=parts.toArray },Value.string { data:=#[] },strB non,strB body] (0,0) _ Hoend.out Tryz.underlying169 rfl (by kernel_rfl))) rfl ⟨HBend.out,.inr ⟨_,HR2.out,rfl⟩⟩
  ·have HR2:Hid (zQ file=none):=by
    show _=_
    rw [HR.out,hst,aj]
    intro h
    injection h with h
    have:=aT List.length h
    rw [an,aR] at this
    omega
   have hbq:((at_:Int) == (part.length:Int))=false:=by rw [aQ];omega
   refine wp_region_held_drew (S:=fun w'=>w'.heap[fb]?=some (.cells #[.bool false,.int .i64 (b3.toNat:Int),Value.string { data:=parts.toArray },Value.string { data:=#[] },strB non,strB body] 169 (0,0))∧w'.cell? ⟨p,0,none⟩=some (strB part)∧w'.cell? ⟨p,1,none⟩=some (.int .i64 (at_:Int))∧w'.cell? ⟨p,2,none⟩=some (.bool false)) (by kernel_rfl) ⟨Hf4.out,k0,k1,k2⟩ (fun hHeld=>?_)
   refine wpAnyH_take (i:=0) (oi:=_) (v:=.agg #[.bool false,.int .i64 (b3.toNat:Int),Value.string { data:=parts.toArray },Value.string { data:=#[] },strB non,strB body]) rfl (by kernel_rfl) (by kernel_rfl) (by kernel_rfl) (fun _ _ _ h=>h) (Or.inl ⟨by kernel_rfl,fun w hSw=>?_⟩) (by assumption) ?_
   ·have hrl:=run_loadVar_row (P:=Tryz.prog) w _ 169 169 #[.bool false,.int .i64 (b3.toNat:Int),Value.string { data:=parts.toArray },Value.string { data:=#[] },strB non,strB body] (0,0) _ hSw.1 Tryz.underlying169 rfl (by kernel_rfl)
    unfold execOp
    simp [bj,aO,Act.eval,Instr.loadAt,Instr.sureAddr,bQ,bP,bu,hrl]
   simp only [jA,jB,jC,Act.put,jD,jE,jF]
   refine tk 1 (.pointer (some ⟨p,0,none⟩)) ?_
   refine tk 2 (.pointer (some ⟨p,0,none⟩)) ?_
   refine tk 3 (.pointer (some ⟨p,2,none⟩)) ?_
   refine tk 4 (.bool false) ?_
   refine tk 5 (.bool true) ?_
   refine tk 6 (.bool true) ?_
   refine tk 7 (.pointer (some ⟨p,0,none⟩)) ?_
   refine tk 8 (.pointer (some ⟨p,0,none⟩)) ?_
   refine tk 9 (.pointer (some ⟨p,1,none⟩)) ?_
   refine tk 10 (.int .i64 (at_:Int)) ?_
   refine tk 11 (.pointer (some ⟨p,0,none⟩)) ?_
   refine tk 12 (.pointer (some ⟨p,0,none⟩)) ?_
   refine tk 13 (.pointer (some ⟨p,0,none⟩)) ?_
   refine tk 14 (strB part) ?_
   refine tk 15 (.int .i64 (part.length:Int)) ?_
   refine tk 16 (.bool false) ?_
   refine tk 17 (.bool false) ?_
   simp only [jA,jB,jC,Act.put,jD,jE,jF]
   refine rd 18 (fun K hK=>?_)
   simp only [jA,jB,jC]
   rw [aw (by simp [Region.wanted])]
   refine wp_store_row 169 (.tmp 2) (.tmp 96) rfl w.heap.size #[.bool false,.int .i64 (b3.toNat:Int),Value.string { data:=parts.toArray },Value.string { data:=#[] },strB non,strB body] rfl rfl 169 file0 Ho4.out (by kernel_rfl) rfl (by simp [Value.oneCell']) ?_
   have hgr:=QN w4.drew w.heap.size #[.bool false,.int .i64 (b3.toNat:Int),Value.string { data:=parts.toArray },Value.string { data:=#[] },strB non,strB body]
   have Hf5:=hid (qp hgr (show w4.drew.heap[fb]?=_ from Hf4.out) (by omega))
   have Hoend:=hid (setRow_heap w4.drew w.heap.size _ #[.bool false,.int .i64 (b3.toNat:Int),Value.string { data:=parts.toArray },Value.string { data:=#[] },strB non,strB body] 169 (0,0) (show w4.drew.heap[w.heap.size]?=_ from Ho4.out))
   have HBend:=hid ((qe HB4.out).trans (xI hgr (ae _) HB4.out.size))
   have j0:(w4.drew.setRow w.heap.size #[.bool false,.int .i64 (b3.toNat:Int),Value.string { data:=parts.toArray },Value.string { data:=#[] },strB non,strB body]).cell? ⟨p,0,none⟩=some (strB part):=(World.cell?_of_block (setRow_other w4.drew w.heap.size p #[.bool false,.int .i64 (b3.toNat:Int),Value.string { data:=parts.toArray },Value.string { data:=#[] },strB non,strB body] (by omega))).trans k0
   have j1:(w4.drew.setRow w.heap.size #[.bool false,.int .i64 (b3.toNat:Int),Value.string { data:=parts.toArray },Value.string { data:=#[] },strB non,strB body]).cell? ⟨p,1,none⟩=some (.int .i64 (at_:Int)):=(World.cell?_of_block (setRow_other w4.drew w.heap.size p #[.bool false,.int .i64 (b3.toNat:Int),Value.string { data:=parts.toArray },Value.string { data:=#[] },strB non,strB body] (by omega))).trans k1
   have j2:(w4.drew.setRow w.heap.size #[.bool false,.int .i64 (b3.toNat:Int),Value.string { data:=parts.toArray },Value.string { data:=#[] },strB non,strB body]).cell? ⟨p,2,none⟩=some (.bool false):=(World.cell?_of_block (setRow_other w4.drew w.heap.size p #[.bool false,.int .i64 (b3.toNat:Int),Value.string { data:=parts.toArray },Value.string { data:=#[] },strB non,strB body] (by omega))).trans k2
   refine hK.out _ _ ⟨Hf5.out,j0,j1,j2⟩ (fun hHeld=>?_)
   clear hK K
   try simp only [jA,jB,jC,Act.put,jD,jE,jF]
   refine tk 19 (.bool false) ?_
   simp only [jA,jB,jC,Act.put,jD,jE,jF]
   refine wpAnyH_done (by kernel_rfl) ?_ _
   clear hHeld j0 j1 j2
   generalize w4.drew.setRow _ _=w5 at *
   go_wp2
   exact bodyPost_ret (v:=.tuple #[.agg #[.bool false,.int .i64 (b3.toNat:Int),Value.string { data:=parts.toArray },Value.string { data:=#[] },strB non,strB body],.bool false]) (qt (p:=2) (q:=3) rfl _ _ _ _ _ rfl rfl (run_loadVar_row (P:=Tryz.prog) w5 w.heap.size 169 169 #[.bool false,.int .i64 (b3.toNat:Int),Value.string { data:=parts.toArray },Value.string { data:=#[] },strB non,strB body] (0,0) _ Hoend.out Tryz.underlying169 rfl (by kernel_rfl))) rfl ⟨HBend.out,.inl ⟨HR2.out,_,⟨by rfl,by simp [Value.oneCell']⟩,rfl⟩⟩
end
section
theorem Es (file:List UInt8) (w:World) (hgood:PU file) (hfr:¬ file.length < 8+Qv (file.drop (file.length - 4))) (h5:file.getD 2 0=79) :
  Calls Tryz.prog 88 #[strB file] w (Af file w):=by
 have Hgood:=hid hgood
 obtain ⟨h1,h2,h3,h4,_,h6,h7⟩:=hgood
 obtain ⟨hb0,hl0,_,ho0⟩:=qm w file0 169
 have HB0:=hid hb0
 have Ho0:=hid ho0
 clear hb0 ho0
 have h1i:(file.length:Int)≤65000:=by omega
 have h2i:(8:Int)≤(file.length:Int):=by omega
 have h1d:decide ((65000:Int) < (file.length:Int))=false:=aS (by omega)
 have h2d:decide ((file.length:Int) < 8)=false:=aS (by omega)
 have h3d:(((⟨file.toArray⟩:ByteArray).extract 0 2).toList == [67,70])=true:=by rw [ND];simpa using h3
 have h4d:(((⟨file.toArray⟩:ByteArray).extract (file.length - 2) file.length).toList == [67,70])=true:=by rw [NH];simpa using h4
 have hl2:2 < (⟨file.toArray⟩:ByteArray).size:=by simp [ByteArray.size];omega
 have hl3:3 < (⟨file.toArray⟩:ByteArray).size:=by simp [ByteArray.size];omega
 obtain ⟨b2,hb2⟩:∃ b,file[2]?=some b:=⟨file[2],ay (by omega)⟩
 obtain ⟨b3,hb3⟩:∃ b,file[3]?=some b:=⟨file[3],ay (by omega)⟩
 have g2:file.getD 2 0=b2:=by simp [List.getD,hb2]
 have g3:file.getD 3 0=b3:=by simp [List.getD,hb3]
 have i2:((⟨file.toArray⟩:ByteArray)[2]'hl2).toNat=b2.toNat:=by
  have:=(aA.1 hb2).2
  rw [← this];rfl
 have i3:((⟨file.toArray⟩:ByteArray)[3]'hl3).toNat=b3.toNat:=by
  have:=(aA.1 hb3).2
  rw [← this];rfl
 rw [g3] at h6 h7
 rw [g2] at h5
 have Hg3:=hid g3
 have Hg2:=hid g2
 have h6d:decide ((b3.toNat:Int) < 1)=false:=aS (by omega)
 have h7d:decide ((9:Int) < (b3.toNat:Int))=false:=aS (by omega)
 obtain ⟨y0,hy0⟩:∃ b,file[file.length - 4]?=some b:=⟨file[file.length - 4]'(by omega),ay (by omega)⟩
 obtain ⟨y1,hy1⟩:∃ b,file[file.length - 3]?=some b:=⟨file[file.length - 3]'(by omega),ay (by omega)⟩
 have e0:∀ h,(⟨file.toArray⟩:ByteArray)[file.length - 4]'h=y0:=fun h=>(aA.1 hy0).2
 have e1:∀ h,(⟨file.toArray⟩:ByteArray)[file.length - 3]'h=y1:=fun h=>(aA.1 hy1).2
 have HTN:Hid (Qv (file.drop (file.length - 4))=y0.toNat+256*y1.toNat):=by
  show _=_
  obtain ⟨h0,h0'⟩:=aA.1 hy0
  obtain ⟨h1,h1'⟩:=aA.1 hy1
  rw [aN h0,h0',show file.length - 4+1=file.length - 3 by omega,aN h1,h1']
  rfl
 have l0:y0.toNat < 256:=y0.toNat_lt
 have l1:y1.toNat < 256:=y1.toNat_lt
 have l3:b3.toNat < 256:=b3.toNat_lt
 clear hy0 hy1 hb2 hb3 g2 g3 h1 h2 h3 h4 h6 h7
 have q0:(0:Int)≤(file.length:Int) - 4:=by omega
 have q1:(file.length:Int) - 4 < (file.length:Int):=by omega
 have q2:((file.length:Int) - 4).toNat=file.length - 4:=by omega
 have q3:(0:Int)≤(file.length:Int) - 3:=by omega
 have q4:(file.length:Int) - 3 < (file.length:Int):=by omega
 have q5:((file.length:Int) - 3).toNat=file.length - 3:=by omega
 have w0:IntKind.i64.wrap ((file.length:Int) - 4)=(file.length:Int) - 4:=IntWalk.i64_in _ ⟨by omega,by omega⟩
 have w1:IntKind.i64.wrap ((file.length:Int) - 3)=(file.length:Int) - 3:=IntWalk.i64_in _ ⟨by omega,by omega⟩
 have w2:IntKind.i64.wrap (y0.toNat:Int)=(y0.toNat:Int):=IntWalk.i64_in _ ⟨by omega,by omega⟩
 have w3:IntKind.i64.wrap (y1.toNat:Int)=(y1.toNat:Int):=IntWalk.i64_in _ ⟨by omega,by omega⟩
 have w4:IntKind.i64.wrap (256*(y1.toNat:Int))=256*(y1.toNat:Int):=IntWalk.i64_in _ ⟨by omega,by omega⟩
 have w5:IntKind.i64.wrap ((file.length:Int) - 4 - (y0.toNat:Int))=(file.length:Int) - 4 - (y0.toNat:Int):=IntWalk.i64_in _ ⟨by omega,by omega⟩
 have w6:IntKind.i64.wrap ((file.length:Int) - 4 - (y0.toNat:Int) - 256*(y1.toNat:Int))=(file.length:Int) - 4 - (y0.toNat:Int) - 256*(y1.toNat:Int):=IntWalk.i64_in _ ⟨by omega,by omega⟩
 have w7:IntKind.i64.wrap (b3.toNat:Int)=(b3.toNat:Int):=IntWalk.i64_in _ ⟨by omega,by omega⟩
 have h5a:((b2.toNat:Int) != 69)=true:=by rw [h5];rfl
 have h5b:((b2.toNat:Int) != 79)=false:=by rw [h5];rfl
 have h5c:((b2.toNat:Int) == 79)=true:=by rw [h5];rfl
 rw [HTN.out] at hfr
 obtain ⟨F,hF⟩:∃ F:Nat,F+(y0.toNat+256*y1.toNat)+4=file.length:=⟨file.length - 4 - (y0.toNat+256*y1.toNat),by omega⟩
 have hF4:4≤F:=by omega
 have hFl:F+4≤file.length:=by omega
 have hFe:(file.length:Int) - 4 - (y0.toNat:Int) - 256*(y1.toNat:Int)=(F:Int):=by omega
 have hF4i:(4:Int)≤(F:Int):=by omega
 have hFd:¬ (F:Int) < 4:=by omega
 have hFi:(F:Int)≤(file.length:Int):=by omega
 have HFN:Hid (file.length - 4 - Qv (file.drop (file.length - 4))=F):=by show _=_;rw [HTN.out];omega
 have HFF:Hid (¬ file.length < 8+Qv (file.drop (file.length - 4))):=by rw [HTN.out];exact hfr
 have H5:=hid h5
 clear hfr hF h5
 go_enter Tryz.func88,Tryz.ntmps88
 go_wp2_with fail
 go_quiet (fail)
 have HoN:Hid (((w.alloc (.cells file0 169)).drewN nq).heap[w.heap.size]?=some (.cells file0 169 (0,0))):=Ho0.out
 have HBN:=hid (below_drewN HB0.out nq)
 clear h1d h2d h3d h4d h6d h7d e0 e1 q1 q3 q4 q5 w1 w2 w3 w4 w5 w6 hFe l0 l1 HTN h5a
 generalize hWN:(w.alloc _).drewN nq=WN at *
 clear hWN
 go_upto_region 7 with fail
 have hx4:=Va file 4 F
 have hn2:(2:Int) < (file.length:Int):=by omega
 have hn3:(3:Int) < (file.length:Int):=by omega
 refine wp_region_held_drew (S:=fun _=>True) (by kernel_rfl) trivial (fun hHeld=>?_)
 refine tk 0 (strB file) ?_
 refine tk 1 (.int .u8 (b2.toNat:Int)) ?_
 refine tk 2 (.bool true) ?_
 refine tk 3 (strB file) ?_
 refine tk 4 (.int .u8 (b3.toNat:Int)) ?_
 refine tk 5 (.int .i64 (b3.toNat:Int)) ?_
 refine tk 6 (strB file) ?_
 refine tk 7 (.int .i64 (F:Int)) ?_
 refine tk 8 (strB ((file.drop 4).take (F - 4))) ?_
 refine tk 9 (.agg #[.bool true,.int .i64 (b3.toNat:Int),strB ((file.drop 4).take (F - 4)),Value.string { data:=#[] },Value.string { data:=#[] },Value.string { data:=#[] }]) ?_
 simp only [jA,jB,jC,Act.put,jD,jE,jF]
 refine rd 10 (fun K hK=>?_)
 simp only [jA,jB,jC]
 go_simp
 try go_wp2_with fail
 refine hK.out _ _ trivial (fun hHeld=>?_)
 clear hK K
 try simp only [jA,jB,jC,Act.put,jD,jE,jF]
 refine rd 11 (fun K hK=>?_)
 simp only [jA,jB,jC]
 go_simp
 try go_wp2_with fail
 refine hK.out _ _ trivial (fun hHeld=>?_)
 clear hK K
 refine wpAnyH_done (by kernel_rfl) ?_ _
 clear hHeld
 have HB1:=hid (qe (HBN.out.alloc HBN.out.size (.cells #[.bool true,.int .i64 (b3.toNat:Int),Value.string { data:=((file.drop 4).take (F - 4)).toArray },Value.string { data:=#[] },Value.string { data:=#[] },Value.string { data:=#[] }] 169)))
 have Ho1:Hid ((WN.alloc (.cells #[.bool true,.int .i64 (b3.toNat:Int),Value.string { data:=((file.drop 4).take (F - 4)).toArray },Value.string { data:=#[] },Value.string { data:=#[] },Value.string { data:=#[] }] 169)).drew.heap[w.heap.size]?=some (.cells file0 169 (0,0))):=JK _ HoN.out
 have Hf1:Hid ((WN.alloc (.cells #[.bool true,.int .i64 (b3.toNat:Int),Value.string { data:=((file.drop 4).take (F - 4)).toArray },Value.string { data:=#[] },Value.string { data:=#[] },Value.string { data:=#[] }] 169)).drew.heap[WN.heap.size]?=some (.cells #[.bool true,.int .i64 (b3.toNat:Int),Value.string { data:=((file.drop 4).take (F - 4)).toArray },Value.string { data:=#[] },Value.string { data:=#[] },Value.string { data:=#[] }] 169 (0,0))):=(qm WN #[.bool true,.int .i64 (b3.toNat:Int),Value.string { data:=((file.drop 4).take (F - 4)).toArray },Value.string { data:=#[] },Value.string { data:=#[] },Value.string { data:=#[] }] 169).2.2.2
 have hwN:w.heap.size < WN.heap.size:=(ag.1 HoN.out).1
 clear HoN HBN hx4 hn2 hn3 i2 i3 h5c w7
 generalize hW1:(WN.alloc _).drew=W1 at *
 clear hW1
 generalize WN.heap.size=fb at *
 have hFn:(F:Int)≤(file.length:Int) - 4:=by omega
 have hx5:=Va file F (file.length - 4)
 go_upto_region 9 with fail
 clear hx5
 have HR:Hid (zQ file=if (qv (qk ((xC (some ((file.drop F).take (file.length - 4 - F)))).1:Int) (xC (some ((file.drop F).take (file.length - 4 - F)))).2).2).2=some [] then some ⟨true,b3.toNat,(file.drop 4).take (F - 4),(qk ((xC (some ((file.drop F).take (file.length - 4 - F)))).1:Int) (xC (some ((file.drop F).take (file.length - 4 - F)))).2).1,(qv (qk ((xC (some ((file.drop F).take (file.length - 4 - F)))).1:Int) (xC (some ((file.drop F).take (file.length - 4 - F)))).2).2).1.1,(qv (qk ((xC (some ((file.drop F).take (file.length - 4 - F)))).1:Int) (xC (some ((file.drop F).take (file.length - 4 - F)))).2).2).1.2⟩ else none):=by
  show _=_
  rw [Re Hgood.out HFF.out HFN.out,Hg2.out,H5.out,Hg3.out]
  rfl
 have HS2:=hid (Vz W1 ((file.drop F).take (file.length - 4 - F)))
 have Hf2:=hid (JK (.cells #[strB ((file.drop F).take (file.length - 4 - F)),.int .i64 0,.bool false] 243) Hf1.out)
 have Ho2:=hid (JK (.cells #[strB ((file.drop F).take (file.length - 4 - F)),.int .i64 0,.bool false] 243) Ho1.out)
 have HB2:=hid (HB1.out.alloc HB1.out.size (.cells #[strB ((file.drop F).take (file.length - 4 - F)),.int .i64 0,.bool false] 243))
 have hfp:fb < W1.heap.size:=(ag.1 Hf1.out).1
 have hpl:((file.drop F).take (file.length - 4 - F)).length≤maxLen:=by
  unfold maxLen
  rw [aq,an]
  omega
 clear HB1 Ho1 Hf1
 generalize (file.drop F).take (file.length - 4 - F)=part at *
 generalize (file.drop 4).take (F - 4)=parts at *
 generalize hW2:W1.alloc _=W2 at *
 clear hW2
 generalize W1.heap.size=p at *
 have c0:W2.cell? ⟨fb,0,none⟩=some (.bool true):=by rw [cell_of_row W2 fb 0 _ _ (0,0) Hf2.out];rfl
 have hn2:(xC (some part)).1≤65535:=Nr _
 go_wp2_with fail
 clear c0
 refine (Nu p part (some part) W2 hpl HS2.out).mono ?_
 rintro e wa ⟨rfl,hspa,hga⟩
 have HSa:=hid hspa
 have Hfa:=hid (qp hga Hf2.out (by omega))
 have Hoa:=hid (qp hga Ho2.out (by omega))
 have HBa:=hid (HB2.out.trans (xI hga (by omega) HB2.out.size))
 clear hga hspa Hf2 Ho2 HB2 HS2
 generalize xC (some part)=x at *
 obtain ⟨nn,sta⟩:=x
 simp only at HR HSa hn2 ⊢
 go_wp2_with fail
 refine (QJ p part sta (nn:Int) wa hpl (by omega) (by omega) HSa.out).mono ?_
 rintro e wb ⟨rfl,hspb,hgb⟩
 have HSb:=hid hspb
 have Hfb:=hid (qp hgb Hfa.out (by omega))
 have Hob:=hid (qp hgb Hoa.out (by omega))
 have HBb:=hid (HBa.out.trans (xI hgb (by omega) HBa.out.size))
 clear hgb hspb Hfa Hoa HBa HSa
 generalize qk (nn:Int) sta=x at *
 obtain ⟨ft,stb⟩:=x
 simp only at HR HSb ⊢
 have c3:wb.cell? ⟨fb,3,none⟩=some (Value.string { data:=#[] }):=by rw [cell_of_row wb fb 3 _ _ (0,0) Hfb.out];rfl
 have f3:=frozen_of_row wb fb 3 _ _ Hfb.out
 go_upto_region 12 with fail
 clear c3 f3 hn2
 have hgc:=Jc wb fb 3 (strB ft)
 have Hfc:Hid ((wb.setCell ⟨fb,3,none⟩ (strB ft)).heap[fb]?=some (.cells #[.bool true,.int .i64 (b3.toNat:Int),Value.string { data:=parts.toArray },strB ft,Value.string { data:=#[] },Value.string { data:=#[] }] 169 (0,0))):=heap_setCell_same wb fb 3 _ _ (strB ft) Hfb.out
 have HSc:=hid (xw HSb.out hgc (by omega))
 have Hoc:=hid (qp hgc Hob.out (by omega))
 have HBc:=hid (HBb.out.trans (xI hgc (by omega) HBb.out.size))
 clear hgc Hfb Hob HBb HSb
 generalize wb.setCell _ _=wc at *
 go_wp2_with fail
 refine (Ky p part stb wc hpl HSc.out).mono ?_
 rintro e w3 ⟨rfl,hsp3,hg3⟩
 have HS3:=hid hsp3
 have Hf3:=hid (qp hg3 Hfc.out (by omega))
 have Ho3:=hid (qp hg3 Hoc.out (by omega))
 have HB3:=hid (HBc.out.trans (xI hg3 (by omega) HBc.out.size))
 clear hg3 hsp3
 generalize qv stb=x at *
 obtain ⟨⟨non,body⟩,st⟩:=x
 simp only at HR HS3 ⊢
 have c4:w3.cell? ⟨fb,4,none⟩=some (Value.string { data:=#[] }):=by rw [cell_of_row w3 fb 4 _ _ (0,0) Hf3.out];rfl
 have c5:w3.cell? ⟨fb,5,none⟩=some (Value.string { data:=#[] }):=by rw [cell_of_row w3 fb 5 _ _ (0,0) Hf3.out];rfl
 have f4:=frozen_of_row w3 fb 4 _ _ Hf3.out
 have f5:=frozen_of_row w3 fb 5 _ _ Hf3.out
 go_upto_region 13 with fail
 clear c4 c5 f4 f5
 have Hf4:=hid (Pg (x:=strB non) (y:=strB body) Hf3.out)
 have hgs:=ja (Jc w3 fb 4 (strB non)) (Jc (w3.setCell ⟨fb,4,none⟩ (strB non)) fb 5 (strB body))
 have HS4:=hid (xw HS3.out hgs (by omega))
 have Ho4:=hid (qp hgs Ho3.out (by omega))
 have HB4:=hid (HB3.out.trans (xI hgs (by omega) HB3.out.size))
 clear hgs Hf3 HS3 Ho3 HB3
 generalize (w3.setCell _ _).setCell _ _=w4 at *
 obtain ⟨at_,bad,hrow,hat,hst⟩:=HS4.out
 obtain ⟨⟨k0,k1,k2⟩,_⟩:=xt hrow
 have hr6:=(JU Hf4.out)
 obtain ⟨g0,g1,g2,g3,g4,g5⟩:=hr6
 clear hrow
 cases bad with
 | true =>
  have HR2:Hid (zQ file=none):=by
   show _=_
   rw [HR.out,hst]
   rfl
  refine wp_region_held_drew (S:=fun w'=>w'.heap[fb]?=some (.cells #[.bool true,.int .i64 (b3.toNat:Int),Value.string { data:=parts.toArray },strB ft,strB non,strB body] 169 (0,0))∧w'.cell? ⟨p,0,none⟩=some (strB part)∧w'.cell? ⟨p,1,none⟩=some (.int .i64 (at_:Int))∧w'.cell? ⟨p,2,none⟩=some (.bool true)) (by kernel_rfl) ⟨Hf4.out,k0,k1,k2⟩ (fun hHeld=>?_)
  refine wpAnyH_take (i:=0) (oi:=_) (v:=.agg #[.bool true,.int .i64 (b3.toNat:Int),Value.string { data:=parts.toArray },strB ft,strB non,strB body]) rfl (by kernel_rfl) (by kernel_rfl) (by kernel_rfl) (fun _ _ _ h=>h) (Or.inl ⟨by kernel_rfl,fun w hSw=>?_⟩) (by assumption) ?_
  ·have hrl:=run_loadVar_row (P:=Tryz.prog) w _ 169 169 #[.bool true,.int .i64 (b3.toNat:Int),Value.string { data:=parts.toArray },strB ft,strB non,strB body] (0,0) _ hSw.1 Tryz.underlying169 rfl (by kernel_rfl)
   unfold execOp
   simp [bj,aO,Act.eval,Instr.loadAt,Instr.sureAddr,bQ,bP,bu,hrl]
  simp only [jA,jB,jC,Act.put,jD,jE,jF]
  refine tk 1 (.pointer (some ⟨p,0,none⟩)) ?_
  refine tk 2 (.pointer (some ⟨p,0,none⟩)) ?_
  refine tk 3 (.pointer (some ⟨p,2,none⟩)) ?_
  refine tk 4 (.bool true) ?_
  refine tk 5 (.bool false) ?_
  refine tk 6 (.bool false) ?_
  refine tu 7 ?_
  refine tu 8 ?_
  refine tu 9 ?_
  refine tu 10 ?_
  refine tu 11 ?_
  refine tu 12 ?_
  refine tu 13 ?_
  refine tu 14 ?_
  refine tu 15 ?_
  refine tu 16 ?_
  refine tk 17 (.bool false) ?_
  simp only [jA,jB,jC,Act.put,jD,jE,jF]
  refine rd 18 (fun K hK=>?_)
  simp only [jA,jB,jC]
  rw [aw (by simp [Region.wanted])]
  refine wp_store_row 169 (.tmp 2) (.tmp 96) rfl w.heap.size #[.bool true,.int .i64 (b3.toNat:Int),Value.string { data:=parts.toArray },strB ft,strB non,strB body] rfl rfl 169 file0 Ho4.out (by kernel_rfl) rfl (by simp [Value.oneCell']) ?_
  have hgr:=QN w4.drew w.heap.size #[.bool true,.int .i64 (b3.toNat:Int),Value.string { data:=parts.toArray },strB ft,strB non,strB body]
  have Hf5:=hid (qp hgr (show w4.drew.heap[fb]?=_ from Hf4.out) (by omega))
  have Hoend:=hid (setRow_heap w4.drew w.heap.size _ #[.bool true,.int .i64 (b3.toNat:Int),Value.string { data:=parts.toArray },strB ft,strB non,strB body] 169 (0,0) (show w4.drew.heap[w.heap.size]?=_ from Ho4.out))
  have HBend:=hid ((qe HB4.out).trans (xI hgr (ae _) HB4.out.size))
  have j0:(w4.drew.setRow w.heap.size #[.bool true,.int .i64 (b3.toNat:Int),Value.string { data:=parts.toArray },strB ft,strB non,strB body]).cell? ⟨p,0,none⟩=some (strB part):=(World.cell?_of_block (setRow_other w4.drew w.heap.size p #[.bool true,.int .i64 (b3.toNat:Int),Value.string { data:=parts.toArray },strB ft,strB non,strB body] (by omega))).trans k0
  have j1:(w4.drew.setRow w.heap.size #[.bool true,.int .i64 (b3.toNat:Int),Value.string { data:=parts.toArray },strB ft,strB non,strB body]).cell? ⟨p,1,none⟩=some (.int .i64 (at_:Int)):=(World.cell?_of_block (setRow_other w4.drew w.heap.size p #[.bool true,.int .i64 (b3.toNat:Int),Value.string { data:=parts.toArray },strB ft,strB non,strB body] (by omega))).trans k1
  have j2:(w4.drew.setRow w.heap.size #[.bool true,.int .i64 (b3.toNat:Int),Value.string { data:=parts.toArray },strB ft,strB non,strB body]).cell? ⟨p,2,none⟩=some (.bool true):=(World.cell?_of_block (setRow_other w4.drew w.heap.size p #[.bool true,.int .i64 (b3.toNat:Int),Value.string { data:=parts.toArray },strB ft,strB non,strB body] (by omega))).trans k2
  refine hK.out _ _ ⟨Hf5.out,j0,j1,j2⟩ (fun hHeld=>?_)
  clear hK K
  try simp only [jA,jB,jC,Act.put,jD,jE,jF]
  refine tk 19 (.bool false) ?_
  simp only [jA,jB,jC,Act.put,jD,jE,jF]
  refine wpAnyH_done (by kernel_rfl) ?_ _
  clear hHeld j0 j1 j2
  generalize w4.drew.setRow _ _=w5 at *
  go_wp2
  exact bodyPost_ret (v:=.tuple #[.agg #[.bool true,.int .i64 (b3.toNat:Int),Value.string { data:=parts.toArray },strB ft,strB non,strB body],.bool false]) (qt (p:=2) (q:=3) rfl _ _ _ _ _ rfl rfl (run_loadVar_row (P:=Tryz.prog) w5 w.heap.size 169 169 #[.bool true,.int .i64 (b3.toNat:Int),Value.string { data:=parts.toArray },strB ft,strB non,strB body] (0,0) _ Hoend.out Tryz.underlying169 rfl (by kernel_rfl))) rfl ⟨HBend.out,.inl ⟨HR2.out,_,⟨by rfl,by simp [Value.oneCell']⟩,rfl⟩⟩
 | false =>
  simp only [bl,bU] at hst
  by_cases hae:at_=part.length
  ·have HR2:Hid (zQ file=some ⟨true,b3.toNat,parts,ft,non,body⟩):=by
    show _=_
    rw [HR.out,hst,hae,List.drop_length,aw rfl]
   have hbq:((at_:Int) == (part.length:Int))=true:=by rw [cI];omega
   refine wp_region_held_drew (S:=fun w'=>w'.heap[fb]?=some (.cells #[.bool true,.int .i64 (b3.toNat:Int),Value.string { data:=parts.toArray },strB ft,strB non,strB body] 169 (0,0))∧w'.cell? ⟨p,0,none⟩=some (strB part)∧w'.cell? ⟨p,1,none⟩=some (.int .i64 (at_:Int))∧w'.cell? ⟨p,2,none⟩=some (.bool false)) (by kernel_rfl) ⟨Hf4.out,k0,k1,k2⟩ (fun hHeld=>?_)
   refine wpAnyH_take (i:=0) (oi:=_) (v:=.agg #[.bool true,.int .i64 (b3.toNat:Int),Value.string { data:=parts.toArray },strB ft,strB non,strB body]) rfl (by kernel_rfl) (by kernel_rfl) (by kernel_rfl) (fun _ _ _ h=>h) (Or.inl ⟨by kernel_rfl,fun w hSw=>?_⟩) (by assumption) ?_
   ·have hrl:=run_loadVar_row (P:=Tryz.prog) w _ 169 169 #[.bool true,.int .i64 (b3.toNat:Int),Value.string { data:=parts.toArray },strB ft,strB non,strB body] (0,0) _ hSw.1 Tryz.underlying169 rfl (by kernel_rfl)
    unfold execOp
    simp [bj,aO,Act.eval,Instr.loadAt,Instr.sureAddr,bQ,bP,bu,hrl]
   simp only [jA,jB,jC,Act.put,jD,jE,jF]
   refine tk 1 (.pointer (some ⟨p,0,none⟩)) ?_
   refine tk 2 (.pointer (some ⟨p,0,none⟩)) ?_
   refine tk 3 (.pointer (some ⟨p,2,none⟩)) ?_
   refine tk 4 (.bool false) ?_
   refine tk 5 (.bool true) ?_
   refine tk 6 (.bool true) ?_
   refine tk 7 (.pointer (some ⟨p,0,none⟩)) ?_
   refine tk 8 (.pointer (some ⟨p,0,none⟩)) ?_
   refine tk 9 (.pointer (some ⟨p,1,none⟩)) ?_
   refine tk 10 (.int .i64 (at_:Int)) ?_
   refine tk 11 (.pointer (some ⟨p,0,none⟩)) ?_
   refine tk 12 (.pointer (some ⟨p,0,none⟩)) ?_
   refine tk 13 (.pointer (some ⟨p,0,none⟩)) ?_
   refine tk 14 (strB part) ?_
   refine tk 15 (.int .i64 (part.length:Int)) ?_
   refine tk 16 (.bool true) ?_
   refine tk 17 (.bool true) ?_
   simp only [jA,jB,jC,Act.put,jD,jE,jF]
   refine rd 18 (fun K hK=>?_)
   simp only [jA,jB,jC]
   rw [aw (by simp [Region.wanted])]
   refine wp_store_row 169 (.tmp 2) (.tmp 96) rfl w.heap.size #[.bool true,.int .i64 (b3.toNat:Int),Value.string { data:=parts.toArray },strB ft,strB non,strB body] rfl rfl 169 file0 Ho4.out (by kernel_rfl) rfl (by simp [Value.oneCell']) ?_
   have hgr:=QN w4.drew w.heap.size #[.bool true,.int .i64 (b3.toNat:Int),Value.string { data:=parts.toArray },strB ft,strB non,strB body]
   have Hf5:=hid (qp hgr (show w4.drew.heap[fb]?=_ from Hf4.out) (by omega))
   have Hoend:=hid (setRow_heap w4.drew w.heap.size _ #[.bool true,.int .i64 (b3.toNat:Int),Value.string { data:=parts.toArray },strB ft,strB non,strB body] 169 (0,0) (show w4.drew.heap[w.heap.size]?=_ from Ho4.out))
   have HBend:=hid ((qe HB4.out).trans (xI hgr (ae _) HB4.out.size))
   have j0:(w4.drew.setRow w.heap.size #[.bool true,.int .i64 (b3.toNat:Int),Value.string { data:=parts.toArray },strB ft,strB non,strB body]).cell? ⟨p,0,none⟩=some (strB part):=(World.cell?_of_block (setRow_other w4.drew w.heap.size p #[.bool true,.int .i64 (b3.toNat:Int),Value.string { data:=parts.toArray },strB ft,strB non,strB body] (by omega))).trans k0
   have j1:(w4.drew.setRow w.heap.size #[.bool true,.int .i64 (b3.toNat:Int),Value.string { data:=parts.toArray },strB ft,strB non,strB body]).cell? ⟨p,1,none⟩=some (.int .i64 (at_:Int)):=(World.cell?_of_block (setRow_other w4.drew w.heap.size p #[.bool true,.int .i64 (b3.toNat:Int),Value.string { data:=parts.toArray },strB ft,strB non,strB body] (by omega))).trans k1
   have j2:(w4.drew.setRow w.heap.size #[.bool true,.int .i64 (b3.toNat:Int),Value.string { data:=parts.toArray },strB ft,strB non,strB body]).cell? ⟨p,2,none⟩=some (.bool false):=(World.cell?_of_block (setRow_other w4.drew w.heap.size p #[.bool true,.int .i64 (b3.toNat:Int),Value.string { data:=parts.toArray },strB ft,strB non,strB body] (by omega))).trans k2
   refine hK.out _ _ ⟨Hf5.out,j0,j1,j2⟩ (fun hHeld=>?_)
   clear hK K
   try simp only [jA,jB,jC,Act.put,jD,jE,jF]
   refine tk 19 (.bool true) ?_
   simp only [jA,jB,jC,Act.put,jD,jE,jF]
   refine wpAnyH_done (by kernel_rfl) ?_ _
   clear hHeld j0 j1 j2
   generalize w4.drew.setRow _ _=w5 at *
   go_wp2
   exact bodyPost_ret (v:=.tuple #[.agg #[.bool true,.int .i64 (b3.toNat:Int),Value.string { data:=parts.toArray },strB ft,strB non,strB body],.bool true]) (qt (p:=2) (q:=3) rfl _ _ _ _ _ rfl rfl (run_loadVar_row (P:=Tryz.prog) w5 w.heap.size 169 169 #[.bool true,.int .i64 (b3.toNat:Int),Value.string { data:=parts.toArray },strB ft,strB non,strB body] (0,0) _ Hoend.out Tryz.underlying169 rfl (by kernel_rfl))) rfl ⟨HBend.out,.inr ⟨_,HR2.out,rfl⟩⟩
  ·have HR2:Hid (zQ file=none):=by
    show _=_
    rw [HR.out,hst,aj]
    intro h
    injection h with h
    have:=aT List.length h
    rw [an,aR] at this
    omega
   have hbq:((at_:Int) == (part.length:Int))=false:=by rw [aQ];omega
   refine wp_region_held_drew (S:=fun w'=>w'.heap[fb]?=some (.cells #[.bool true,.int .i64 (b3.toNat:Int),Value.string { data:=parts.toArray },strB ft,strB non,strB body] 169 (0,0))∧w'.cell? ⟨p,0,none⟩=some (strB part)∧w'.cell? ⟨p,1,none⟩=some (.int .i64 (at_:Int))∧w'.cell? ⟨p,2,none⟩=some (.bool false)) (by kernel_rfl) ⟨Hf4.out,k0,k1,k2⟩ (fun hHeld=>?_)
   refine wpAnyH_take (i:=0) (oi:=_) (v:=.agg #[.bool true,.int .i64 (b3.toNat:Int),Value.string { data:=parts.toArray },strB ft,strB non,strB body]) rfl (by kernel_rfl) (by kernel_rfl) (by kernel_rfl) (fun _ _ _ h=>h) (Or.inl ⟨by kernel_rfl,fun w hSw=>?_⟩) (by assumption) ?_
   ·have hrl:=run_loadVar_row (P:=Tryz.prog) w _ 169 169 #[.bool true,.int .i64 (b3.toNat:Int),Value.string { data:=parts.toArray },strB ft,strB non,strB body] (0,0) _ hSw.1 Tryz.underlying169 rfl (by kernel_rfl)
    unfold execOp
    simp [bj,aO,Act.eval,Instr.loadAt,Instr.sureAddr,bQ,bP,bu,hrl]
   simp only [jA,jB,jC,Act.put,jD,jE,jF]
   refine tk 1 (.pointer (some ⟨p,0,none⟩)) ?_
   refine tk 2 (.pointer (some ⟨p,0,none⟩)) ?_
   refine tk 3 (.pointer (some ⟨p,2,none⟩)) ?_
   refine tk 4 (.bool false) ?_
   refine tk 5 (.bool true) ?_
   refine tk 6 (.bool true) ?_
   refine tk 7 (.pointer (some ⟨p,0,none⟩)) ?_
   refine tk 8 (.pointer (some ⟨p,0,none⟩)) ?_
   refine tk 9 (.pointer (some ⟨p,1,none⟩)) ?_
   refine tk 10 (.int .i64 (at_:Int)) ?_
   refine tk 11 (.pointer (some ⟨p,0,none⟩)) ?_
   refine tk 12 (.pointer (some ⟨p,0,none⟩)) ?_
   refine tk 13 (.pointer (some ⟨p,0,none⟩)) ?_
   refine tk 14 (strB part) ?_
   refine tk 15 (.int .i64 (part.length:Int)) ?_
   refine tk 16 (.bool false) ?_
   refine tk 17 (.bool false) ?_
   simp only [jA,jB,jC,Act.put,jD,jE,jF]
   refine rd 18 (fun K hK=>?_)
   simp only [jA,jB,jC]
   rw [aw (by simp [Region.wanted])]
   refine wp_store_row 169 (.tmp 2) (.tmp 96) rfl w.heap.size #[.bool true,.int .i64 (b3.toNat:Int),Value.string { data:=parts.toArray },strB ft,strB non,strB body] rfl rfl 169 file0 Ho4.out (by kernel_rfl) rfl (by simp [Value.oneCell']) ?_
   have hgr:=QN w4.drew w.heap.size #[.bool true,.int .i64 (b3.toNat:Int),Value.string { data:=parts.toArray },strB ft,strB non,strB body]
   have Hf5:=hid (qp hgr (show w4.drew.heap[fb]?=_ from Hf4.out) (by omega))
   have Hoend:=hid (setRow_heap w4.drew w.heap.size _ #[.bool true,.int .i64 (b3.toNat:Int),Value.string { data:=parts.toArray },strB ft,strB non,strB body] 169 (0,0) (show w4.drew.heap[w.heap.size]?=_ from Ho4.out))
   have HBend:=hid ((qe HB4.out).trans (xI hgr (ae _) HB4.out.size))
   have j0:(w4.drew.setRow w.heap.size #[.bool true,.int .i64 (b3.toNat:Int),Value.string { data:=parts.toArray },strB ft,strB non,strB body]).cell? ⟨p,0,none⟩=some (strB part):=(World.cell?_of_block (setRow_other w4.drew w.heap.size p #[.bool true,.int .i64 (b3.toNat:Int),Value.string { data:=parts.toArray },strB ft,strB non,strB body] (by omega))).trans k0
   have j1:(w4.drew.setRow w.heap.size #[.bool true,.int .i64 (b3.toNat:Int),Value.string { data:=parts.toArray },strB ft,strB non,strB body]).cell? ⟨p,1,none⟩=some (.int .i64 (at_:Int)):=(World.cell?_of_block (setRow_other w4.drew w.heap.size p #[.bool true,.int .i64 (b3.toNat:Int),Value.string { data:=parts.toArray },strB ft,strB non,strB body] (by omega))).trans k1
   have j2:(w4.drew.setRow w.heap.size #[.bool true,.int .i64 (b3.toNat:Int),Value.string { data:=parts.toArray },strB ft,strB non,strB body]).cell? ⟨p,2,none⟩=some (.bool false):=(World.cell?_of_block (setRow_other w4.drew w.heap.size p #[.bool true,.int .i64 (b3.toNat:Int),Value.string { data:=parts.toArray },strB ft,strB non,strB body] (by omega))).trans k2
   refine hK.out _ _ ⟨Hf5.out,j0,j1,j2⟩ (fun hHeld=>?_)
   clear hK K
   try simp only [jA,jB,jC,Act.put,jD,jE,jF]
   refine tk 19 (.bool false) ?_
   simp only [jA,jB,jC,Act.put,jD,jE,jF]
   refine wpAnyH_done (by kernel_rfl) ?_ _
   clear hHeld j0 j1 j2
   generalize w4.drew.setRow _ _=w5 at *
   go_wp2
   exact bodyPost_ret (v:=.tuple #[.agg #[.bool true,.int .i64 (b3.toNat:Int),Value.string { data:=parts.toArray },strB ft,strB non,strB body],.bool false]) (qt (p:=2) (q:=3) rfl _ _ _ _ _ rfl rfl (run_loadVar_row (P:=Tryz.prog) w5 w.heap.size 169 169 #[.bool true,.int .i64 (b3.toNat:Int),Value.string { data:=parts.toArray },strB ft,strB non,strB body] (0,0) _ Hoend.out Tryz.underlying169 rfl (by kernel_rfl))) rfl ⟨HBend.out,.inl ⟨HR2.out,_,⟨by rfl,by simp [Value.oneCell']⟩,rfl⟩⟩
theorem Ie (file:List UInt8) (w:World) (hs:file.length≤maxLen) :
  Calls Tryz.prog 88 #[strB file] w (Af file w):=by
 by_cases hbad:65000 < file.length∨file.length < 8∨file.take 2≠[67,70]∨file.drop (file.length - 2)≠[67,70]∨(file.getD 2 0≠69∧file.getD 2 0≠79)∨(file.getD 3 0).toNat < 1∨9 < (file.getD 3 0).toNat
 ·exact Ii file w hs hbad
 have hgood:PU file:=by
  refine ⟨fun h=>hbad (.inl h),fun h=>hbad (.inr (.inl h)),?_,?_,?_,fun h=>hbad (.inr (.inr (.inr (.inr (.inr (.inl h)))))),fun h=>hbad (.inr (.inr (.inr (.inr (.inr (.inr h))))))⟩
  ·exact cl fun h=>hbad (.inr (.inr (.inl h)))
  ·exact cl fun h=>hbad (.inr (.inr (.inr (.inl h))))
  ·exact cl fun h=>hbad (.inr (.inr (.inr (.inr (.inl ⟨fun h1=>h (.inl h1),fun h1=>h (.inr h1)⟩)))))
 by_cases hfr:file.length < 8+Qv (file.drop (file.length - 4))
 ·exact RQ file w hgood hfr
 rcases hgood.2.2.2.2.1 with h|h
 ·exact Ib file w hgood hfr h
 ·exact Es file w hgood hfr h
end
end Go.Proofs.YthhpbhpfagoapaaGreat
