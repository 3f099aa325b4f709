import Derived.Test.YthhpbhpfagoapaaGreatJAA
import Derived.Test.YthhpbhpfagoapaaGreatRTk
import Derived.Test.YthhpbhpfagoapaaGreatJBP
import Derived.Test.YthhpbhpfagoapaaGreatJBF
import Derived.Test.YthhpbhpfagoapaaGreatJAZ
namespace Go.Proofs.YthhpbhpfagoapaaGreat
set_option linter.unusedVariables false
set_option linter.unusedSimpArgs false
set_option maxRecDepth 100000
set_option maxHeartbeats 16000000
open Go.RowKit
abbrev seal0:Array Value:=#[Value.string { data:=#[] },Value.string { data:=#[] },Value.string { data:=#[] },Value.string { data:=#[] }]
theorem Zf {P:Program} {fn:Func} {p q q2:Tmp} {ty:TypeId} (h:fn.results=#[.cell p ty,.tmp q,.tmp q2]) (tmps:Array Value) (w:World) (g:Nat) (cs:Array Value) (x y:Value)
  (hp:tmps.getD p undef=.pointer (some ⟨g,0,none⟩)) (hq:tmps.getD q undef=x) (hq2:tmps.getD q2 undef=y) (hl:(loadVar ty ⟨g,0,none⟩).run P w=.ok (.agg cs) w) :
  (results fn tmps).run P w=.ok (.tuple #[.agg cs,x,y]) w:=by
 have hp':tmps[p]?.getD undef=.pointer (some ⟨g,0,none⟩):=by simpa using hp
 have hq':tmps[q]?.getD undef=x:=by simpa using hq
 have hq2':tmps[q2]?.getD undef=y:=by simpa using hq2
 simp [results,h,hp',hq',hq2',asAddr,hl]
theorem Cu (sec non ext body:List UInt8) (w:World) (h1:sec.length≤1000) (h2:non.length≤1000) (h3:ext.length≤5000) (hb:body.length≤5002) :
  Calls Tryz.prog 120 #[strB sec,strB non,strB ext,strB body] w fun e w'=>Below w.heap.size w w'∧∃ p,e=.returned (.tuple #[strB p,.bool (qw sec non ext body).isSome])∧∀ q,qw sec non ext body=some q→p=q:=by
 by_cases hs:body.length < 2
 ·refine (RK ⟨sec.toArray⟩ ⟨non.toArray⟩ ⟨ext.toArray⟩ ⟨body.toArray⟩ w (by simpa [ByteArray.size] using hs)).mono ?_
  rintro e w' ⟨rfl,rfl⟩
  have hn:qw sec non ext body=none:=by
   unfold qw
   rw [aj (by omega)]
  rw [hn]
  exact ⟨Below.refl _ _,[],rfl,fun q h=>by cases h⟩
 ·refine (IH ⟨sec.toArray⟩ ⟨non.toArray⟩ ⟨ext.toArray⟩ ⟨body.toArray⟩ w (by simp [ByteArray.size];omega) (by simpa [ByteArray.size] using hb) (by simpa [ByteArray.size] using h1) (by simpa [ByteArray.size] using h2) (by simpa [ByteArray.size] using h3)).mono ?_
  rintro e w' ⟨rfl,hbw⟩
  refine ⟨hbw,zw sec non (UQ body),?_,?_⟩
  ·have he:Zv sec non ext body=(qw sec non ext body).isSome:=by
    rw [← Kf]
    unfold qw
    by_cases h:XU sec non ext (zw sec non (UQ body))=body
    ·rw [aw ⟨hb,by omega,h⟩]
     simp [h]
    ·rw [aj (fun h'=>h h'.2.2)]
     simpa using h
   rw [← he]
  ·intro q h
   unfold qw at h
   split at h
   ·injection h
   ·cases h
theorem Uw (ra:Option Addr) (rcap:Nat) (r:List KeyB) (key:Int) (ext non body:List UInt8) (w:World) (hl:LiesK w ra r) (hrm:r.length≤maxLen) (hsec:(jl r key).length≤1000) (hnon:non.length≤1000) (hext:ext.length≤5000) (hbody:body.length≤maxLen) :
  Calls Tryz.prog 89 #[.slice ra r.length rcap,.int .i64 key,strB ext,.agg #[strB non,strB body]] w fun e w'=>Below w.heap.size w w' ∧
   ∃ p,e=.returned (.tuple #[.agg #[strB (jl r key),strB non,strB ext,strB body],strB p,.bool (qw (jl r key) non ext body).isSome])∧∀ q,qw (jl r key) non ext body=some q→p=q:=by
 have HLG:Hid (5002 < body.length→qw (jl r key) non ext body=none):=fun h=>by
  unfold qw
  rw [aj (by omega)]
 have HOP:=hid (fun w' (hb:body.length≤5002)=>Cu (jl r key) non ext body w' hsec hnon hext hb)
 have HSE:=hid (fun w' (h:LiesK w' ra r)=>ZD ra rcap r key w' hrm h)
 have Hl:=hid hl
 obtain ⟨hb0,hl0,ho0,ho1⟩:=Qc w #[strB non,strB body] 167 seal0 40
 have HB0:=hid hb0
 have Ho0:=hid ho0
 have Ho1:=hid ho1
 have HL0:=hid (hl.later hb0)
 have hexi:(ext.length:Int)≤5000:=by omega
 clear hl hsec hnon hb0 ho0 ho1 hl0
 generalize qw (jl r key) non ext body=O at *
 generalize jl r key=sec at *
 go_enter Tryz.func89,Tryz.ntmps89
 go_upto_region 1 with fail
 generalize (w.alloc _).alloc _=W0 at *
 have c0:W0.cell? ⟨w.heap.size,0,none⟩=some (strB non):=by rw [cell_of_row W0 w.heap.size 0 _ _ (0,0) Ho0.out];rfl
 have c1:W0.cell? ⟨w.heap.size,1,none⟩=some (strB body):=by rw [cell_of_row W0 w.heap.size 1 _ _ (0,0) Ho0.out];rfl
 refine wp_region_held_drew (S:=fun w'=>w'.cell? ⟨w.heap.size,0,none⟩=some (strB non)∧w'.cell? ⟨w.heap.size,1,none⟩=some (strB body)) (by kernel_rfl) ⟨c0,c1⟩ (fun hHeld=>?_)
 refine tk 0 (.slice ra r.length rcap) ?_
 refine tk 1 (.int .i64 key) ?_
 refine tk 3 (.pointer (some ⟨w.heap.size,0,none⟩)) ?_
 refine tk 4 (strB non) ?_
 refine tk 5 (strB ext) ?_
 refine tk 6 (.pointer (some ⟨w.heap.size,1,none⟩)) ?_
 refine tk 7 (strB body) ?_
 simp only [jA,jB,jC,Act.put,jD,jE,jF]
 refine wpAnyH_ready (rs:=[2,9]) (by kernel_rfl) (by simp) ?_
 refine AllReadyH.cons (o:=_) rfl (fun K hK=>?_) (AllReadyH.cons (o:=_) rfl (fun K hK=>?_) AllReadyH.nil)
 ·simp only [jA,jB,jC]
  go_simp
  go_at_call 81
  refine (HSE.out _ (show LiesK W0.drew ra r from (HL0.out.later (qe (Below.refl _ _))))).mono ?_
  rintro e w1 ⟨rfl,hb1⟩
  have hb1':=ji hb1
  have HB1:=hid (HB0.out.trans (hb1'.mono HB0.out.size))
  have Hm1:=hid (jb hb1' Ho0.out)
  have Hr1:=hid (jb hb1' Ho1.out)
  clear hb1 hb1'
  have d0:w1.cell? ⟨w.heap.size,0,none⟩=some (strB non):=by rw [cell_of_row w1 w.heap.size 0 _ _ (0,0) Hm1.out];rfl
  have d1:w1.cell? ⟨w.heap.size,1,none⟩=some (strB body):=by rw [cell_of_row w1 w.heap.size 1 _ _ (0,0) Hm1.out];rfl
  try go_wp2_with fail
  refine hK.out _ _ ⟨d0,d1⟩ (fun hHeld=>?_)
  clear hK K
  try simp only [jA,jB,jC,Act.put,jD,jE,jF]
  refine tk 8 (.agg #[strB sec,strB non,strB ext,strB body]) ?_
  simp only [jA,jB,jC,Act.put,jD,jE,jF]
  refine rd 9 (fun K hK=>?_)
  simp only [jA,jB,jC]
  go_simp
  try go_wp2_with fail
  have Hs2:Hid ((w1.alloc (.cells seal0 40)).heap[w1.heap.size]?=some (.cells seal0 40 (0,0))):=(qm w1 seal0 40).2.2.2
  have Hm2:=hid (jt (.cells seal0 40) Hm1.out)
  have Hr2:=hid (jt (.cells seal0 40) Hr1.out)
  have HB2:=hid (HB1.out.alloc HB1.out.size (.cells seal0 40))
  have hz:=HB1.out.size
  have hz2:=(ag.1 Hr1.out).1
  have e0:(w1.alloc (.cells seal0 40)).cell? ⟨w.heap.size,0,none⟩=some (strB non):=by rw [cell_of_row _ w.heap.size 0 _ _ (0,0) Hm2.out];rfl
  have e1:(w1.alloc (.cells seal0 40)).cell? ⟨w.heap.size,1,none⟩=some (strB body):=by rw [cell_of_row _ w.heap.size 1 _ _ (0,0) Hm2.out];rfl
  refine hK.out _ _ ⟨e0,e1⟩ (fun hHeld=>?_)
  clear hK K e0 e1
  try simp only [jA,jB,jC,Act.put,jD,jE,jF]
  refine rd 10 (fun K hK=>?_)
  simp only [jA,jB,jC]
  rw [aw (by simp [Region.wanted])]
  refine wp_store_row 40 (.tmp 11) (.tmp 22) rfl (w1.heap.size) #[strB sec,strB non,strB ext,strB body] rfl rfl 40 seal0 Hs2.out (by kernel_rfl) rfl (by simp [Value.oneCell']) ?_
  have hgr:=jn (w1.alloc (.cells seal0 40)) (w1.heap.size) #[strB sec,strB non,strB ext,strB body]
  have Hs3:=hid (setRow_heap (w1.alloc (.cells seal0 40)) (w1.heap.size) _ #[strB sec,strB non,strB ext,strB body] 40 (0,0) Hs2.out)
  have Hm3:=hid (jf hgr Hm2.out (by omega))
  have Hr3:=hid (jf hgr Hr2.out (by omega))
  have HB3:=hid (HB2.out.trans (jg hgr (by omega) HB2.out.size))
  have f0:((w1.alloc (.cells seal0 40)).setRow (w1.heap.size) #[strB sec,strB non,strB ext,strB body]).cell? ⟨w.heap.size,0,none⟩=some (strB non):=by rw [cell_of_row _ w.heap.size 0 _ _ (0,0) Hm3.out];rfl
  have f1:((w1.alloc (.cells seal0 40)).setRow (w1.heap.size) #[strB sec,strB non,strB ext,strB body]).cell? ⟨w.heap.size,1,none⟩=some (strB body):=by rw [cell_of_row _ w.heap.size 1 _ _ (0,0) Hm3.out];rfl
  refine hK.out _ _ ⟨f0,f1⟩ (fun hHeld=>?_)
  clear hK K f0 f1 hgr
  refine wpAnyH_done (by kernel_rfl) ?_ _
  clear hHeld
  generalize hW3:(w1.alloc (.cells seal0 40)).setRow (w1.heap.size) #[strB sec,strB non,strB ext,strB body]=w3 at *
  clear hW3
  generalize hsb:w1.heap.size=sb at Hs3 ⊢
  clear hsb
  have a0:w3.cell? ⟨w.heap.size,1,none⟩=some (strB body):=by rw [cell_of_row w3 w.heap.size 1 _ _ (0,0) Hm3.out];rfl
  have b0:w3.cell? ⟨sb,0,none⟩=some (strB sec):=by rw [cell_of_row w3 sb 0 _ _ (0,0) Hs3.out];rfl
  have b1:w3.cell? ⟨sb,1,none⟩=some (strB non):=by rw [cell_of_row w3 sb 1 _ _ (0,0) Hs3.out];rfl
  have b2:w3.cell? ⟨sb,2,none⟩=some (strB ext):=by rw [cell_of_row w3 sb 2 _ _ (0,0) Hs3.out];rfl
  have b3:w3.cell? ⟨sb,3,none⟩=some (strB body):=by rw [cell_of_row w3 sb 3 _ _ (0,0) Hs3.out];rfl
  clear c0 c1 d0 d1
  by_cases hlong:5002 < body.length
  ·have hli:(5002:Int) < (body.length:Int):=by omega
   have HN:=hid (HLG.out hlong)
   clear hlong
   go_wp2_with (first|(refine wpList_load_row rfl 40 (.tmp 11) rfl sb rfl 40 #[strB sec,strB non,strB ext,strB body] (0,0) _ Hs3.out Tryz.underlying40 rfl (by kernel_rfl) ?_)|(refine wpList_store_row rfl 40 (.tmp 8) (.tmp 32) rfl (w.heap.size+1) #[strB sec,strB non,strB ext,strB body] rfl rfl 40 seal0 Hr3.out (by kernel_rfl) rfl (by simp [Value.oneCell']) ?_))
   have hgr:=jn w3 (w.heap.size+1) #[strB sec,strB non,strB ext,strB body]
   have HoE:=hid (setRow_heap w3 (w.heap.size+1) _ #[strB sec,strB non,strB ext,strB body] 40 (0,0) Hr3.out)
   have HBE:=hid (HB3.out.trans (jg hgr (by omega) HB3.out.size))
   clear hgr
   generalize w3.setRow _ _=w4 at *
   rw [HN.out]
   exact bodyPost_ret (v:=.tuple #[.agg #[strB sec,strB non,strB ext,strB body],strB [],.bool false]) (Zf (p:=8) (q:=9) (q2:=10) rfl _ _ _ _ _ _ rfl rfl rfl (run_loadVar_row (P:=Tryz.prog) w4 (w.heap.size+1) 40 40 #[strB sec,strB non,strB ext,strB body] (0,0) _ HoE.out Tryz.underlying40 rfl (by kernel_rfl))) rfl ⟨HBE.out,[],rfl,fun q h=>by cases h⟩
  ·have hli:(body.length:Int)≤5002:=by omega
   have hlb:body.length≤5002:=by omega
   clear hlong
   go_wp2_with fail
   refine (HOP.out w3 hlb).mono ?_
   rintro e w4 ⟨hb4,pl,rfl,hpl⟩
   have HB4:=hid (HB3.out.trans (hb4.mono HB3.out.size))
   have Hs4:=hid (jb hb4 Hs3.out)
   have Hr4:=hid (jb hb4 Hr3.out)
   have HPL:=hid hpl
   clear hb4 hpl a0 b0 b1 b2 b3
   go_wp2_with (first|(refine wpList_load_row rfl 40 (.tmp 11) rfl sb rfl 40 #[strB sec,strB non,strB ext,strB body] (0,0) _ Hs4.out Tryz.underlying40 rfl (by kernel_rfl) ?_)|(refine wpList_store_row rfl 40 (.tmp 8) (.tmp 45) rfl (w.heap.size+1) #[strB sec,strB non,strB ext,strB body] rfl rfl 40 seal0 Hr4.out (by kernel_rfl) rfl (by simp [Value.oneCell']) ?_))
   have hgr:=jn w4 (w.heap.size+1) #[strB sec,strB non,strB ext,strB body]
   have HoE:=hid (setRow_heap w4 (w.heap.size+1) _ #[strB sec,strB non,strB ext,strB body] 40 (0,0) Hr4.out)
   have HBE:=hid (HB4.out.trans (jg hgr (by omega) HB4.out.size))
   clear hgr
   generalize w4.setRow _ _=w5 at *
   exact bodyPost_ret (v:=.tuple #[.agg #[strB sec,strB non,strB ext,strB body],strB pl,.bool O.isSome]) (Zf (p:=8) (q:=9) (q2:=10) rfl _ _ _ _ _ _ rfl rfl rfl (run_loadVar_row (P:=Tryz.prog) w5 (w.heap.size+1) 40 40 #[strB sec,strB non,strB ext,strB body] (0,0) _ HoE.out Tryz.underlying40 rfl (by kernel_rfl))) rfl ⟨HBE.out,pl,rfl,HPL.out⟩
 ·simp only [jA,jB,jC]
  go_simp
  try go_wp2_with fail
  have HsA:Hid ((W0.alloc (.cells seal0 40)).heap[W0.heap.size]?=some (.cells seal0 40 (0,0))):=(qm W0 seal0 40).2.2.2
  have HmA:=hid (jt (w:=W0) (.cells seal0 40) Ho0.out)
  have HrA:=hid (jt (w:=W0) (.cells seal0 40) Ho1.out)
  have HBA:=hid (HB0.out.alloc HB0.out.size (.cells seal0 40))
  have HLA:=hid (HL0.out.later ((Below.refl _ W0).alloc (ae _) (.cells seal0 40)))
  have hz:=HB0.out.size
  have hz2:=(ag.1 Ho1.out).1
  have e0:(W0.alloc (.cells seal0 40)).cell? ⟨w.heap.size,0,none⟩=some (strB non):=by rw [cell_of_row _ w.heap.size 0 _ _ (0,0) HmA.out];rfl
  have e1:(W0.alloc (.cells seal0 40)).cell? ⟨w.heap.size,1,none⟩=some (strB body):=by rw [cell_of_row _ w.heap.size 1 _ _ (0,0) HmA.out];rfl
  refine hK.out _ _ ⟨e0,e1⟩ (fun hHeld=>?_)
  clear hK K
  try simp only [jA,jB,jC,Act.put,jD,jE,jF]
  clear e0 e1
  generalize hWA:W0.alloc (.cells seal0 40)=WA at *
  clear hWA
  generalize hsb:W0.heap.size=sb at HsA ⊢
  have Hsb:=hid hsb
  clear hsb
  refine rd 2 (fun K hK=>?_)
  simp only [jA,jB,jC]
  go_simp
  go_at_call 81
  refine (HSE.out _ (show LiesK WA.drew ra r from (HLA.out.later (qe (Below.refl _ _))))).mono ?_
  rintro e w1 ⟨rfl,hb1⟩
  have hb1':=ji hb1
  have HB1:=hid (HBA.out.trans (hb1'.mono HBA.out.size))
  have Hm1:=hid (jb hb1' HmA.out)
  have Hr1:=hid (jb hb1' HrA.out)
  have Hs2:=hid (jb hb1' HsA.out)
  have Hm2:=Hm1
  have Hr2:=Hr1
  have HB2:=HB1
  clear hb1 hb1'
  have d0:w1.cell? ⟨w.heap.size,0,none⟩=some (strB non):=by rw [cell_of_row w1 w.heap.size 0 _ _ (0,0) Hm1.out];rfl
  have d1:w1.cell? ⟨w.heap.size,1,none⟩=some (strB body):=by rw [cell_of_row w1 w.heap.size 1 _ _ (0,0) Hm1.out];rfl
  try go_wp2_with fail
  refine hK.out _ _ ⟨d0,d1⟩ (fun hHeld=>?_)
  clear hK K
  try simp only [jA,jB,jC,Act.put,jD,jE,jF]
  refine tk 8 (.agg #[strB sec,strB non,strB ext,strB body]) ?_
  simp only [jA,jB,jC,Act.put,jD,jE,jF]
  refine rd 10 (fun K hK=>?_)
  simp only [jA,jB,jC]
  have hsw:w.heap.size+1 < sb:=by rw [← Hsb.out];exact hz2
  rw [aw (by simp [Region.wanted])]
  refine wp_store_row 40 (.tmp 11) (.tmp 22) rfl (sb) #[strB sec,strB non,strB ext,strB body] rfl rfl 40 seal0 Hs2.out (by kernel_rfl) rfl (by simp [Value.oneCell']) ?_
  have hgr:=jn w1 (sb) #[strB sec,strB non,strB ext,strB body]
  have Hs3:=hid (setRow_heap w1 (sb) _ #[strB sec,strB non,strB ext,strB body] 40 (0,0) Hs2.out)
  have Hm3:=hid (jf hgr Hm2.out (by omega))
  have Hr3:=hid (jf hgr Hr2.out (by omega))
  have HB3:=hid (HB2.out.trans (jg hgr (by omega) HB2.out.size))
  have f0:(w1.setRow (sb) #[strB sec,strB non,strB ext,strB body]).cell? ⟨w.heap.size,0,none⟩=some (strB non):=by rw [cell_of_row _ w.heap.size 0 _ _ (0,0) Hm3.out];rfl
  have f1:(w1.setRow (sb) #[strB sec,strB non,strB ext,strB body]).cell? ⟨w.heap.size,1,none⟩=some (strB body):=by rw [cell_of_row _ w.heap.size 1 _ _ (0,0) Hm3.out];rfl
  refine hK.out _ _ ⟨f0,f1⟩ (fun hHeld=>?_)
  clear hK K f0 f1 hgr
  refine wpAnyH_done (by kernel_rfl) ?_ _
  clear hHeld
  generalize hW3:w1.setRow (sb) #[strB sec,strB non,strB ext,strB body]=w3 at *
  clear hW3
  skip
  have a0:w3.cell? ⟨w.heap.size,1,none⟩=some (strB body):=by rw [cell_of_row w3 w.heap.size 1 _ _ (0,0) Hm3.out];rfl
  have b0:w3.cell? ⟨sb,0,none⟩=some (strB sec):=by rw [cell_of_row w3 sb 0 _ _ (0,0) Hs3.out];rfl
  have b1:w3.cell? ⟨sb,1,none⟩=some (strB non):=by rw [cell_of_row w3 sb 1 _ _ (0,0) Hs3.out];rfl
  have b2:w3.cell? ⟨sb,2,none⟩=some (strB ext):=by rw [cell_of_row w3 sb 2 _ _ (0,0) Hs3.out];rfl
  have b3:w3.cell? ⟨sb,3,none⟩=some (strB body):=by rw [cell_of_row w3 sb 3 _ _ (0,0) Hs3.out];rfl
  clear c0 c1 d0 d1
  by_cases hlong:5002 < body.length
  ·have hli:(5002:Int) < (body.length:Int):=by omega
   have HN:=hid (HLG.out hlong)
   clear hlong
   go_wp2_with (first|(refine wpList_load_row rfl 40 (.tmp 11) rfl sb rfl 40 #[strB sec,strB non,strB ext,strB body] (0,0) _ Hs3.out Tryz.underlying40 rfl (by kernel_rfl) ?_)|(refine wpList_store_row rfl 40 (.tmp 8) (.tmp 32) rfl (w.heap.size+1) #[strB sec,strB non,strB ext,strB body] rfl rfl 40 seal0 Hr3.out (by kernel_rfl) rfl (by simp [Value.oneCell']) ?_))
   have hgr:=jn w3 (w.heap.size+1) #[strB sec,strB non,strB ext,strB body]
   have HoE:=hid (setRow_heap w3 (w.heap.size+1) _ #[strB sec,strB non,strB ext,strB body] 40 (0,0) Hr3.out)
   have HBE:=hid (HB3.out.trans (jg hgr (by omega) HB3.out.size))
   clear hgr
   generalize w3.setRow _ _=w4 at *
   rw [HN.out]
   exact bodyPost_ret (v:=.tuple #[.agg #[strB sec,strB non,strB ext,strB body],strB [],.bool false]) (Zf (p:=8) (q:=9) (q2:=10) rfl _ _ _ _ _ _ rfl rfl rfl (run_loadVar_row (P:=Tryz.prog) w4 (w.heap.size+1) 40 40 #[strB sec,strB non,strB ext,strB body] (0,0) _ HoE.out Tryz.underlying40 rfl (by kernel_rfl))) rfl ⟨HBE.out,[],rfl,fun q h=>by cases h⟩
  ·have hli:(body.length:Int)≤5002:=by omega
   have hlb:body.length≤5002:=by omega
   clear hlong
   go_wp2_with fail
   refine (HOP.out w3 hlb).mono ?_
   rintro e w4 ⟨hb4,pl,rfl,hpl⟩
   have HB4:=hid (HB3.out.trans (hb4.mono HB3.out.size))
   have Hs4:=hid (jb hb4 Hs3.out)
   have Hr4:=hid (jb hb4 Hr3.out)
   have HPL:=hid hpl
   clear hb4 hpl a0 b0 b1 b2 b3
   go_wp2_with (first|(refine wpList_load_row rfl 40 (.tmp 11) rfl sb rfl 40 #[strB sec,strB non,strB ext,strB body] (0,0) _ Hs4.out Tryz.underlying40 rfl (by kernel_rfl) ?_)|(refine wpList_store_row rfl 40 (.tmp 8) (.tmp 45) rfl (w.heap.size+1) #[strB sec,strB non,strB ext,strB body] rfl rfl 40 seal0 Hr4.out (by kernel_rfl) rfl (by simp [Value.oneCell']) ?_))
   have hgr:=jn w4 (w.heap.size+1) #[strB sec,strB non,strB ext,strB body]
   have HoE:=hid (setRow_heap w4 (w.heap.size+1) _ #[strB sec,strB non,strB ext,strB body] 40 (0,0) Hr4.out)
   have HBE:=hid (HB4.out.trans (jg hgr (by omega) HB4.out.size))
   clear hgr
   generalize w4.setRow _ _=w5 at *
   exact bodyPost_ret (v:=.tuple #[.agg #[strB sec,strB non,strB ext,strB body],strB pl,.bool O.isSome]) (Zf (p:=8) (q:=9) (q2:=10) rfl _ _ _ _ _ _ rfl rfl rfl (run_loadVar_row (P:=Tryz.prog) w5 (w.heap.size+1) 40 40 #[strB sec,strB non,strB ext,strB body] (0,0) _ HoE.out Tryz.underlying40 rfl (by kernel_rfl))) rfl ⟨HBE.out,pl,rfl,HPL.out⟩
end Go.Proofs.YthhpbhpfagoapaaGreat
