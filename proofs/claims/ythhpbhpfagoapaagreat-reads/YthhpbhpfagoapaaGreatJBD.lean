import Derived.Test.YthhpbhpfagoapaaGreatTk
import Derived.Test.YthhpbhpfagoapaaGreatJBC
import Derived.Test.YthhpbhpfagoapaaGreatJAZ
import Derived.Test.YthhpbhpfagoapaaGreatJAR
import Derived.Test.YthhpbhpfagoapaaGreatJAC
import Derived.Test.YthhpbhpfagoapaaGreatVSpots
import Derived.Test.YthhpbhpfagoapaaGreatJAY
namespace Go.Proofs.YthhpbhpfagoapaaGreat
set_option linter.unusedVariables false
set_option linter.unusedSimpArgs false
set_option maxRecDepth 100000
set_option maxHeartbeats 16000000
open Go.RowKit
section
abbrev seal0:Array Value:=#[Value.string { data:=#[] },Value.string { data:=#[] },Value.string { data:=#[] },Value.string { data:=#[] }]
theorem Za {P:Program} {fn:Func} {p q q2:Tmp} {ty:TypeId} (h:fn.results=#[.cell p ty,.tmp q,.tmp q2]) (tmps:Array Value) (w:World) (g:Nat) (cs:Array Value) (x y:Value)
  (hp:tmps.getD p undef=.pointer (some ⟨g,0,none⟩)) (hq:tmps.getD q undef=x) (hq2:tmps.getD q2 undef=y) (hl:(loadVar ty ⟨g,0,none⟩).run P w=.ok (.agg cs) w) :
  (results fn tmps).run P w=.ok (.tuple #[.agg cs,x,y]) w:=by
 have hp':tmps[p]?.getD undef=.pointer (some ⟨g,0,none⟩):=by simpa using hp
 have hq':tmps[q]?.getD undef=x:=by simpa using hq
 have hq2':tmps[q2]?.getD undef=y:=by simpa using hq2
 simp [results,h,hp',hq',hq2',asAddr,hl]
theorem MU (sec non ext body:List UInt8) (w:World) (h1:sec.length≤1000) (h2:non.length≤1000) (h3:ext.length≤5000) (hb:body.length≤5002) :
  Calls Tryz.prog 120 #[strB sec,strB non,strB ext,strB body] w fun e w'=>Below w.heap.size w w'∧∃ p,e=.returned (.tuple #[strB p,.bool (qo sec non ext body).isSome])∧∀ q,qo sec non ext body=some q→p=q:=by
 by_cases hs:body.length < 2
 ·refine (Rs ⟨sec.toArray⟩ ⟨non.toArray⟩ ⟨ext.toArray⟩ ⟨body.toArray⟩ w (by simpa [ByteArray.size] using hs)).mono ?_
  rintro e w' ⟨rfl,rfl⟩
  have hn:qo sec non ext body=none:=by
   unfold qo
   rw [if_neg (by omega)]
  rw [hn]
  exact ⟨Below.refl _ _,[],rfl,fun q h=>by cases h⟩
 ·refine (Ij ⟨sec.toArray⟩ ⟨non.toArray⟩ ⟨ext.toArray⟩ ⟨body.toArray⟩ w (by simp [ByteArray.size];omega) (by simpa [ByteArray.size] using hb) (by simpa [ByteArray.size] using h1) (by simpa [ByteArray.size] using h2) (by simpa [ByteArray.size] using h3)).mono ?_
  rintro e w' ⟨rfl,hbw⟩
  refine ⟨hbw,zl sec non (Uk body),?_,?_⟩
  ·have he:Zg sec non ext body=(qo sec non ext body).isSome:=by
    rw [← ZQ]
    unfold qo
    by_cases h:Xh sec non ext (zl sec non (Uk body))=body
    ·rw [if_pos ⟨hb,by omega,h⟩]
     simp [h]
    ·rw [if_neg (fun h'=>h h'.2.2)]
     simpa using h
   rw [← he]
  ·intro q h
   unfold qo at h
   split at h
   ·injection h
   ·cases h
theorem Ud (ra:Option Addr) (rcap:Nat) (r:List KeyB) (key:Int) (ext non body:List UInt8) (w:World) (hl:LiesK w ra r) (hrm:r.length≤maxLen) (hsec:(jm r key).length≤1000) (hnon:non.length≤1000) (hext:ext.length≤5000) (hbody:body.length≤maxLen) :
  Calls Tryz.prog 89 #[.slice ra r.length rcap,.int .i64 key,strB ext,.agg #[strB non,strB body]] w fun e w'=>Below w.heap.size w w' ∧
   ∃ p,e=.returned (.tuple #[.agg #[strB (jm r key),strB non,strB ext,strB body],strB p,.bool (qo (jm r key) non ext body).isSome])∧∀ q,qo (jm r key) non ext body=some q→p=q:=by
 have HLG:Hid (5002 < body.length→qo (jm r key) non ext body=none):=fun h=>by
  unfold qo
  rw [if_neg (by omega)]
 have HOP:=hid (fun w' (hb:body.length≤5002)=>MU (jm r key) non ext body w' hsec hnon hext hb)
 have HSE:=hid (fun w' (h:LiesK w' ra r)=>Zm ra rcap r key w' hrm h)
 have Hl:=hid hl
 obtain ⟨hb0,hl0,ho0,ho1⟩:=JQ w #[strB non,strB body] 167 seal0 40
 have HB0:=hid hb0
 have Ho0:=hid ho0
 have Ho1:=hid ho1
 have HL0:=hid (hl.later hb0)
 have hexi:(ext.length:Int)≤5000:=by omega
 clear hl hsec hnon hb0 ho0 ho1 hl0
 generalize qo (jm r key) non ext body=O at *
 generalize jm r key=sec at *
 go_enter Tryz.func89,Tryz.ntmps89
 go_upto_region 1 with fail
 generalize (w.alloc _).alloc _=W0 at *
 have c0:W0.cell? ⟨w.heap.size,0,none⟩=some (strB non):=by rw [cell_of_row W0 w.heap.size 0 _ _ (0,0) Ho0.out];rfl
 have c1:W0.cell? ⟨w.heap.size,1,none⟩=some (strB body):=by rw [cell_of_row W0 w.heap.size 1 _ _ (0,0) Ho0.out];rfl
 refine wp_region_held_drew (S:=fun w'=>w'.cell? ⟨w.heap.size,0,none⟩=some (strB non)∧w'.cell? ⟨w.heap.size,1,none⟩=some (strB body)) (by kernel_rfl) ⟨c0,c1⟩ (fun hHeld=>?_)
 refine tk 0 (.slice ra r.length rcap) ?_
 refine tk 1 (.int .i64 key) ?_
 refine tk 3 (.pointer (some ⟨w.heap.size,0,none⟩)) ?_
 refine tk 4 (strB non) ?_
 refine tk 5 (strB ext) ?_
 refine tk 6 (.pointer (some ⟨w.heap.size,1,none⟩)) ?_
 refine tk 7 (strB body) ?_
 simp only [ga,gb,gc,Act.put,gd,ge,gf]
 refine wpAnyH_ready (rs:=[2,9]) (by kernel_rfl) (by simp) ?_
 refine AllReadyH.cons (o:=_) rfl (fun K hK=>?_) (AllReadyH.cons (o:=_) rfl (fun K hK=>?_) AllReadyH.nil)
 ·simp only [ga,gb,gc]
  go_simp
  go_at_call 81
  refine (HSE.out _ (show LiesK W0.drew ra r from (HL0.out.later (qa (Below.refl _ _))))).mono ?_
  rintro e w1 ⟨rfl,hb1⟩
  have hb1':=ji hb1
  have HB1:=hid (HB0.out.trans (hb1'.mono HB0.out.size))
  have Hm1:=hid (jb hb1' Ho0.out)
  have Hr1:=hid (jb hb1' Ho1.out)
  clear hb1 hb1'
  have d0:w1.cell? ⟨w.heap.size,0,none⟩=some (strB non):=by rw [cell_of_row w1 w.heap.size 0 _ _ (0,0) Hm1.out];rfl
  have d1:w1.cell? ⟨w.heap.size,1,none⟩=some (strB body):=by rw [cell_of_row w1 w.heap.size 1 _ _ (0,0) Hm1.out];rfl
  try go_wp2_with fail
  refine hK.out _ _ ⟨d0,d1⟩ (fun hHeld=>?_)
  clear hK K
  try simp only [ga,gb,gc,Act.put,gd,ge,gf]
  refine tk 8 (.agg #[strB sec,strB non,strB ext,strB body]) ?_
  simp only [ga,gb,gc,Act.put,gd,ge,gf]
  refine rd 9 (fun K hK=>?_)
  simp only [ga,gb,gc]
  go_simp
  try go_wp2_with fail
  have Hs2:Hid ((w1.alloc (.cells seal0 40)).heap[w1.heap.size]?=some (.cells seal0 40 (0,0))):=(qg w1 seal0 40).2.2.2
  have Hm2:=hid (jt (.cells seal0 40) Hm1.out)
  have Hr2:=hid (jt (.cells seal0 40) Hr1.out)
  have HB2:=hid (HB1.out.alloc HB1.out.size (.cells seal0 40))
  have hz:=HB1.out.size
  have hz2:=(Array.getElem?_eq_some_iff.1 Hr1.out).1
  have e0:(w1.alloc (.cells seal0 40)).cell? ⟨w.heap.size,0,none⟩=some (strB non):=by rw [cell_of_row _ w.heap.size 0 _ _ (0,0) Hm2.out];rfl
  have e1:(w1.alloc (.cells seal0 40)).cell? ⟨w.heap.size,1,none⟩=some (strB body):=by rw [cell_of_row _ w.heap.size 1 _ _ (0,0) Hm2.out];rfl
  refine hK.out _ _ ⟨e0,e1⟩ (fun hHeld=>?_)
  clear hK K e0 e1
  try simp only [ga,gb,gc,Act.put,gd,ge,gf]
  refine rd 10 (fun K hK=>?_)
  simp only [ga,gb,gc]
  rw [if_pos (by simp [Region.wanted])]
  refine wp_store_row 40 (.tmp 11) (.tmp 22) rfl (w1.heap.size) #[strB sec,strB non,strB ext,strB body] rfl rfl 40 seal0 Hs2.out (by kernel_rfl) rfl (by simp [Value.oneCell']) ?_
  have hgr:=jn (w1.alloc (.cells seal0 40)) (w1.heap.size) #[strB sec,strB non,strB ext,strB body]
  have Hs3:=hid (setRow_heap (w1.alloc (.cells seal0 40)) (w1.heap.size) _ #[strB sec,strB non,strB ext,strB body] 40 (0,0) Hs2.out)
  have Hm3:=hid (jf hgr Hm2.out (by omega))
  have Hr3:=hid (jf hgr Hr2.out (by omega))
  have HB3:=hid (HB2.out.trans (jg hgr (by omega) HB2.out.size))
  have f0:((w1.alloc (.cells seal0 40)).setRow (w1.heap.size) #[strB sec,strB non,strB ext,strB body]).cell? ⟨w.heap.size,0,none⟩=some (strB non):=by rw [cell_of_row _ w.heap.size 0 _ _ (0,0) Hm3.out];rfl
  have f1:((w1.alloc (.cells seal0 40)).setRow (w1.heap.size) #[strB sec,strB non,strB ext,strB body]).cell? ⟨w.heap.size,1,none⟩=some (strB body):=by rw [cell_of_row _ w.heap.size 1 _ _ (0,0) Hm3.out];rfl
  refine hK.out _ _ ⟨f0,f1⟩ (fun hHeld=>?_)
  clear hK K f0 f1 hgr
  refine wpAnyH_done (by kernel_rfl) ?_ _
  clear hHeld
  generalize hW3:(w1.alloc (.cells seal0 40)).setRow (w1.heap.size) #[strB sec,strB non,strB ext,strB body]=w3 at *
  clear hW3
  generalize hsb:w1.heap.size=sb at Hs3 ⊢
  clear hsb
  have a0:w3.cell? ⟨w.heap.size,1,none⟩=some (strB body):=by rw [cell_of_row w3 w.heap.size 1 _ _ (0,0) Hm3.out];rfl
  have b0:w3.cell? ⟨sb,0,none⟩=some (strB sec):=by rw [cell_of_row w3 sb 0 _ _ (0,0) Hs3.out];rfl
  have b1:w3.cell? ⟨sb,1,none⟩=some (strB non):=by rw [cell_of_row w3 sb 1 _ _ (0,0) Hs3.out];rfl
  have b2:w3.cell? ⟨sb,2,none⟩=some (strB ext):=by rw [cell_of_row w3 sb 2 _ _ (0,0) Hs3.out];rfl
  have b3:w3.cell? ⟨sb,3,none⟩=some (strB body):=by rw [cell_of_row w3 sb 3 _ _ (0,0) Hs3.out];rfl
  clear c0 c1 d0 d1
  by_cases hlong:5002 < body.length
  ·have hli:(5002:Int) < (body.length:Int):=by omega
   have HN:=hid (HLG.out hlong)
   clear hlong
   go_wp2_with (first|(refine wpList_load_row rfl 40 (.tmp 11) rfl sb rfl 40 #[strB sec,strB non,strB ext,strB body] (0,0) _ Hs3.out Tryz.underlying40 rfl (by kernel_rfl) ?_)|(refine wpList_store_row rfl 40 (.tmp 8) (.tmp 32) rfl (w.heap.size+1) #[strB sec,strB non,strB ext,strB body] rfl rfl 40 seal0 Hr3.out (by kernel_rfl) rfl (by simp [Value.oneCell']) ?_))
   have hgr:=jn w3 (w.heap.size+1) #[strB sec,strB non,strB ext,strB body]
   have HoE:=hid (setRow_heap w3 (w.heap.size+1) _ #[strB sec,strB non,strB ext,strB body] 40 (0,0) Hr3.out)
   have HBE:=hid (HB3.out.trans (jg hgr (by omega) HB3.out.size))
   clear hgr
   generalize w3.setRow _ _=w4 at *
   rw [HN.out]
   exact bodyPost_ret (v:=.tuple #[.agg #[strB sec,strB non,strB ext,strB body],strB [],.bool false]) (Za (p:=8) (q:=9) (q2:=10) rfl _ _ _ _ _ _ rfl rfl rfl (run_loadVar_row (P:=Tryz.prog) w4 (w.heap.size+1) 40 40 #[strB sec,strB non,strB ext,strB body] (0,0) _ HoE.out Tryz.underlying40 rfl (by kernel_rfl))) rfl ⟨HBE.out,[],rfl,fun q h=>by cases h⟩
  ·have hli:(body.length:Int)≤5002:=by omega
   have hlb:body.length≤5002:=by omega
   clear hlong
   go_wp2_with fail
   refine (HOP.out w3 hlb).mono ?_
   rintro e w4 ⟨hb4,pl,rfl,hpl⟩
   have HB4:=hid (HB3.out.trans (hb4.mono HB3.out.size))
   have Hs4:=hid (jb hb4 Hs3.out)
   have Hr4:=hid (jb hb4 Hr3.out)
   have HPL:=hid hpl
   clear hb4 hpl a0 b0 b1 b2 b3
   go_wp2_with (first|(refine wpList_load_row rfl 40 (.tmp 11) rfl sb rfl 40 #[strB sec,strB non,strB ext,strB body] (0,0) _ Hs4.out Tryz.underlying40 rfl (by kernel_rfl) ?_)|(refine wpList_store_row rfl 40 (.tmp 8) (.tmp 45) rfl (w.heap.size+1) #[strB sec,strB non,strB ext,strB body] rfl rfl 40 seal0 Hr4.out (by kernel_rfl) rfl (by simp [Value.oneCell']) ?_))
   have hgr:=jn w4 (w.heap.size+1) #[strB sec,strB non,strB ext,strB body]
   have HoE:=hid (setRow_heap w4 (w.heap.size+1) _ #[strB sec,strB non,strB ext,strB body] 40 (0,0) Hr4.out)
   have HBE:=hid (HB4.out.trans (jg hgr (by omega) HB4.out.size))
   clear hgr
   generalize w4.setRow _ _=w5 at *
   exact bodyPost_ret (v:=.tuple #[.agg #[strB sec,strB non,strB ext,strB body],strB pl,.bool O.isSome]) (Za (p:=8) (q:=9) (q2:=10) rfl _ _ _ _ _ _ rfl rfl rfl (run_loadVar_row (P:=Tryz.prog) w5 (w.heap.size+1) 40 40 #[strB sec,strB non,strB ext,strB body] (0,0) _ HoE.out Tryz.underlying40 rfl (by kernel_rfl))) rfl ⟨HBE.out,pl,rfl,HPL.out⟩
 ·simp only [ga,gb,gc]
  go_simp
  try go_wp2_with fail
  have HsA:Hid ((W0.alloc (.cells seal0 40)).heap[W0.heap.size]?=some (.cells seal0 40 (0,0))):=(qg W0 seal0 40).2.2.2
  have HmA:=hid (jt (w:=W0) (.cells seal0 40) Ho0.out)
  have HrA:=hid (jt (w:=W0) (.cells seal0 40) Ho1.out)
  have HBA:=hid (HB0.out.alloc HB0.out.size (.cells seal0 40))
  have HLA:=hid (HL0.out.later ((Below.refl _ W0).alloc (Nat.le_refl _) (.cells seal0 40)))
  have hz:=HB0.out.size
  have hz2:=(Array.getElem?_eq_some_iff.1 Ho1.out).1
  have e0:(W0.alloc (.cells seal0 40)).cell? ⟨w.heap.size,0,none⟩=some (strB non):=by rw [cell_of_row _ w.heap.size 0 _ _ (0,0) HmA.out];rfl
  have e1:(W0.alloc (.cells seal0 40)).cell? ⟨w.heap.size,1,none⟩=some (strB body):=by rw [cell_of_row _ w.heap.size 1 _ _ (0,0) HmA.out];rfl
  refine hK.out _ _ ⟨e0,e1⟩ (fun hHeld=>?_)
  clear hK K
  try simp only [ga,gb,gc,Act.put,gd,ge,gf]
  clear e0 e1
  generalize hWA:W0.alloc (.cells seal0 40)=WA at *
  clear hWA
  generalize hsb:W0.heap.size=sb at HsA ⊢
  have Hsb:=hid hsb
  clear hsb
  refine rd 2 (fun K hK=>?_)
  simp only [ga,gb,gc]
  go_simp
  go_at_call 81
  refine (HSE.out _ (show LiesK WA.drew ra r from (HLA.out.later (qa (Below.refl _ _))))).mono ?_
  rintro e w1 ⟨rfl,hb1⟩
  have hb1':=ji hb1
  have HB1:=hid (HBA.out.trans (hb1'.mono HBA.out.size))
  have Hm1:=hid (jb hb1' HmA.out)
  have Hr1:=hid (jb hb1' HrA.out)
  have Hs2:=hid (jb hb1' HsA.out)
  have Hm2:=Hm1
  have Hr2:=Hr1
  have HB2:=HB1
  clear hb1 hb1'
  have d0:w1.cell? ⟨w.heap.size,0,none⟩=some (strB non):=by rw [cell_of_row w1 w.heap.size 0 _ _ (0,0) Hm1.out];rfl
  have d1:w1.cell? ⟨w.heap.size,1,none⟩=some (strB body):=by rw [cell_of_row w1 w.heap.size 1 _ _ (0,0) Hm1.out];rfl
  try go_wp2_with fail
  refine hK.out _ _ ⟨d0,d1⟩ (fun hHeld=>?_)
  clear hK K
  try simp only [ga,gb,gc,Act.put,gd,ge,gf]
  refine tk 8 (.agg #[strB sec,strB non,strB ext,strB body]) ?_
  simp only [ga,gb,gc,Act.put,gd,ge,gf]
  refine rd 10 (fun K hK=>?_)
  simp only [ga,gb,gc]
  have hsw:w.heap.size+1 < sb:=by rw [← Hsb.out];exact hz2
  rw [if_pos (by simp [Region.wanted])]
  refine wp_store_row 40 (.tmp 11) (.tmp 22) rfl (sb) #[strB sec,strB non,strB ext,strB body] rfl rfl 40 seal0 Hs2.out (by kernel_rfl) rfl (by simp [Value.oneCell']) ?_
  have hgr:=jn w1 (sb) #[strB sec,strB non,strB ext,strB body]
  have Hs3:=hid (setRow_heap w1 (sb) _ #[strB sec,strB non,strB ext,strB body] 40 (0,0) Hs2.out)
  have Hm3:=hid (jf hgr Hm2.out (by omega))
  have Hr3:=hid (jf hgr Hr2.out (by omega))
  have HB3:=hid (HB2.out.trans (jg hgr (by omega) HB2.out.size))
  have f0:(w1.setRow (sb) #[strB sec,strB non,strB ext,strB body]).cell? ⟨w.heap.size,0,none⟩=some (strB non):=by rw [cell_of_row _ w.heap.size 0 _ _ (0,0) Hm3.out];rfl
  have f1:(w1.setRow (sb) #[strB sec,strB non,strB ext,strB body]).cell? ⟨w.heap.size,1,none⟩=some (strB body):=by rw [cell_of_row _ w.heap.size 1 _ _ (0,0) Hm3.out];rfl
  refine hK.out _ _ ⟨f0,f1⟩ (fun hHeld=>?_)
  clear hK K f0 f1 hgr
  refine wpAnyH_done (by kernel_rfl) ?_ _
  clear hHeld
  generalize hW3:w1.setRow (sb) #[strB sec,strB non,strB ext,strB body]=w3 at *
  clear hW3
  skip
  have a0:w3.cell? ⟨w.heap.size,1,none⟩=some (strB body):=by rw [cell_of_row w3 w.heap.size 1 _ _ (0,0) Hm3.out];rfl
  have b0:w3.cell? ⟨sb,0,none⟩=some (strB sec):=by rw [cell_of_row w3 sb 0 _ _ (0,0) Hs3.out];rfl
  have b1:w3.cell? ⟨sb,1,none⟩=some (strB non):=by rw [cell_of_row w3 sb 1 _ _ (0,0) Hs3.out];rfl
  have b2:w3.cell? ⟨sb,2,none⟩=some (strB ext):=by rw [cell_of_row w3 sb 2 _ _ (0,0) Hs3.out];rfl
  have b3:w3.cell? ⟨sb,3,none⟩=some (strB body):=by rw [cell_of_row w3 sb 3 _ _ (0,0) Hs3.out];rfl
  clear c0 c1 d0 d1
  by_cases hlong:5002 < body.length
  ·have hli:(5002:Int) < (body.length:Int):=by omega
   have HN:=hid (HLG.out hlong)
   clear hlong
   go_wp2_with (first|(refine wpList_load_row rfl 40 (.tmp 11) rfl sb rfl 40 #[strB sec,strB non,strB ext,strB body] (0,0) _ Hs3.out Tryz.underlying40 rfl (by kernel_rfl) ?_)|(refine wpList_store_row rfl 40 (.tmp 8) (.tmp 32) rfl (w.heap.size+1) #[strB sec,strB non,strB ext,strB body] rfl rfl 40 seal0 Hr3.out (by kernel_rfl) rfl (by simp [Value.oneCell']) ?_))
   have hgr:=jn w3 (w.heap.size+1) #[strB sec,strB non,strB ext,strB body]
   have HoE:=hid (setRow_heap w3 (w.heap.size+1) _ #[strB sec,strB non,strB ext,strB body] 40 (0,0) Hr3.out)
   have HBE:=hid (HB3.out.trans (jg hgr (by omega) HB3.out.size))
   clear hgr
   generalize w3.setRow _ _=w4 at *
   rw [HN.out]
   exact bodyPost_ret (v:=.tuple #[.agg #[strB sec,strB non,strB ext,strB body],strB [],.bool false]) (Za (p:=8) (q:=9) (q2:=10) rfl _ _ _ _ _ _ rfl rfl rfl (run_loadVar_row (P:=Tryz.prog) w4 (w.heap.size+1) 40 40 #[strB sec,strB non,strB ext,strB body] (0,0) _ HoE.out Tryz.underlying40 rfl (by kernel_rfl))) rfl ⟨HBE.out,[],rfl,fun q h=>by cases h⟩
  ·have hli:(body.length:Int)≤5002:=by omega
   have hlb:body.length≤5002:=by omega
   clear hlong
   go_wp2_with fail
   refine (HOP.out w3 hlb).mono ?_
   rintro e w4 ⟨hb4,pl,rfl,hpl⟩
   have HB4:=hid (HB3.out.trans (hb4.mono HB3.out.size))
   have Hs4:=hid (jb hb4 Hs3.out)
   have Hr4:=hid (jb hb4 Hr3.out)
   have HPL:=hid hpl
   clear hb4 hpl a0 b0 b1 b2 b3
   go_wp2_with (first|(refine wpList_load_row rfl 40 (.tmp 11) rfl sb rfl 40 #[strB sec,strB non,strB ext,strB body] (0,0) _ Hs4.out Tryz.underlying40 rfl (by kernel_rfl) ?_)|(refine wpList_store_row rfl 40 (.tmp 8) (.tmp 45) rfl (w.heap.size+1) #[strB sec,strB non,strB ext,strB body] rfl rfl 40 seal0 Hr4.out (by kernel_rfl) rfl (by simp [Value.oneCell']) ?_))
   have hgr:=jn w4 (w.heap.size+1) #[strB sec,strB non,strB ext,strB body]
   have HoE:=hid (setRow_heap w4 (w.heap.size+1) _ #[strB sec,strB non,strB ext,strB body] 40 (0,0) Hr4.out)
   have HBE:=hid (HB4.out.trans (jg hgr (by omega) HB4.out.size))
   clear hgr
   generalize w4.setRow _ _=w5 at *
   exact bodyPost_ret (v:=.tuple #[.agg #[strB sec,strB non,strB ext,strB body],strB pl,.bool O.isSome]) (Za (p:=8) (q:=9) (q2:=10) rfl _ _ _ _ _ _ rfl rfl rfl (run_loadVar_row (P:=Tryz.prog) w5 (w.heap.size+1) 40 40 #[strB sec,strB non,strB ext,strB body] (0,0) _ HoE.out Tryz.underlying40 rfl (by kernel_rfl))) rfl ⟨HBE.out,pl,rfl,HPL.out⟩
end
section
abbrev toldC (r g p f:Int) (cv sv pv ev:Value):Array Value:=#[.int .i64 r,.int .i64 g,.int .i64 p,.int .i64 f,.bool false,cv,sv,pv,ev]
abbrev nilV:Value:=.slice none 0 0
theorem xq {w:World} {q:Nat} {a b c d e f g h i:Value} {t:TypeId} (hh:w.heap[q]?=some (.cells #[a,b,c,d,e,f,g,h,i] t (0,0))) :
  w.cell? ⟨q,0,none⟩=some a∧w.cell? ⟨q,1,none⟩=some b∧w.cell? ⟨q,2,none⟩=some c∧w.cell? ⟨q,3,none⟩=some d∧w.cell? ⟨q,4,none⟩=some e∧w.cell? ⟨q,5,none⟩=some f∧w.cell? ⟨q,6,none⟩=some g∧w.cell? ⟨q,7,none⟩=some h∧w.cell? ⟨q,8,none⟩=some i:=by
 refine ⟨?_,?_,?_,?_,?_,?_,?_,?_,?_⟩<;>rw [cell_of_row w q _ _ _ (0,0) hh]<;>rfl
theorem Ks {w w':World} (h:Below w.heap.size w w'):w.grownBy w' none:=⟨h.os,h.tape,h.output,h.size,fun k hk _=>h.block k hk⟩
theorem Gg {w w' w2:World} {p:Nat} (h:w.grownBy w' (some p)) (hb:Below w'.heap.size w' w2):w.grownBy w2 (some p) :=
 ⟨hb.os.trans h.os,hb.tape.trans h.tape,hb.output.trans h.output,Nat.le_trans h.size hb.size,fun i hi hne=>(hb.block i (Nat.lt_of_lt_of_le hi h.size)).trans (h.block i hi hne)⟩
theorem YU (p foot:Nat) (footer:List UInt8) (w:World) (hs:footer.length≤maxLen) (hp:jS w p footer (some footer)) (hf:foot≤255) :
  Calls Tryz.prog 151 #[.pointer (some ⟨p,0,none⟩),.int .i64 (foot:Int)] w fun e w'=>w.grownBy w' (some p) ∧
   ∃ T cv,e=.returned (.tuple #[.pointer (some ⟨T,0,none⟩),.bool (ZJ foot footer)])∧w.heap.size≤T∧w'.heap[T]?=some (.cells (toldC (qK footer:Int) (zm footer).group (zm footer).page (zm footer).foot cv nilV nilV nilV) 179 (0,0))∧w'.ownsRow w.heap.size 61 4 cv (xO footer).1.length (zQ (xO footer).1):=by
 obtain ⟨i0,hi,hz0,hz1,hz2⟩:=info_parts Tryz.infoColumnX
 have hpw:=JV hp
 obtain ⟨_,_,_,ho0⟩:=qg w (toldC 0 0 0 0 nilV nilV nilV nilV) 179
 have HS0:=hid (zq hp hpw (.cells (toldC 0 0 0 0 nilV nilV nilV nilV) 179))
 have HG0:=hid (World.grownBy_alloc w (.cells (toldC 0 0 0 0 nilV nilV nilV nilV) 179) (some p))
 have HT0:=hid ho0
 have HR:Hid (qK footer=(jJ 60 (some footer)).1):=rfl
 have HP:Hid (zm footer=⟨((jJ 60 (jJ 60 (some footer)).2).1:Nat),((jJ 60 (jJ 60 (jJ 60 (some footer)).2).2).1:Nat),((jJ 9 (jJ 60 (jJ 60 (jJ 60 (some footer)).2).2).2).1:Nat),false⟩):=rfl
 have HC:Hid (xO footer=xJ (jJ 6 (jJ 9 (jJ 60 (jJ 60 (jJ 60 (some footer)).2).2).2).2).2 (jJ 6 (jJ 9 (jJ 60 (jJ 60 (jJ 60 (some footer)).2).2).2).2).1):=rfl
 clear hp ho0
 go_enter Tryz.func151,Tryz.ntmps151
 go_upto_region 2 with fail
 generalize w.alloc _=W0 at *
 go_wp2_with fail
 refine (Jo p footer (some footer) 60 W0 hs (by decide) (by decide) HS0.out).mono ?_
 rintro e x ⟨rfl,hsp,hg⟩
 have HTa:=hid (qi hg HT0.out (by omega))
 have HGa:=hid (ja HG0.out hg)
 have HSa:=hid hsp
 have hle:=xI 60 (some footer)
 clear hg hsp HT0 HG0 HS0
 rw [show (60:Int).toNat=60 from rfl] at HSa ⊢
 generalize jJ 60 (some footer)=y at *
 obtain ⟨v0,s1⟩:=y
 simp only at HR HP HC HSa hle ⊢
 have cc:=(xq HTa.out).1
 have ff:=frozen_of_row x w.heap.size 0 _ _ HTa.out
 go_upto_region 3 with fail
 clear cc ff
 have hgs:=zS x w.heap.size 0 (.int .i64 (v0:Int))
 have HT1:Hid ((x.setCell ⟨w.heap.size,0,none⟩ (.int .i64 (v0:Int))).heap[w.heap.size]?=some (.cells (toldC (v0:Int) 0 0 0 nilV nilV nilV nilV) 179 (0,0))):=heap_setCell_same x w.heap.size 0 _ _ (.int .i64 (v0:Int)) HTa.out
 have HS1:=hid (xl HSa.out hgs (by omega))
 have HG1:=hid (xZ HGa.out hgs (Nat.le_refl _))
 clear hgs HTa HSa HGa
 generalize x.setCell _ _=W1 at *
 go_wp2_with fail
 refine (Jo p footer s1 60 W1 hs (by decide) (by decide) HS1.out).mono ?_
 rintro e x ⟨rfl,hsp,hg⟩
 have HTa:=hid (qi hg HT1.out (by omega))
 have HGa:=hid (ja HG1.out hg)
 have HSa:=hid hsp
 have hle:=xI 60 s1
 clear hg hsp HT1 HG1 HS1
 rw [show (60:Int).toNat=60 from rfl] at HSa ⊢
 generalize jJ 60 s1=y at *
 obtain ⟨v1,s2⟩:=y
 simp only at HR HP HC HSa hle ⊢
 have cc:=(xq HTa.out).2.1
 have ff:=frozen_of_row x w.heap.size 1 _ _ HTa.out
 go_upto_region 4 with fail
 clear cc ff
 have hgs:=zS x w.heap.size 1 (.int .i64 (v1:Int))
 have HT2:Hid ((x.setCell ⟨w.heap.size,1,none⟩ (.int .i64 (v1:Int))).heap[w.heap.size]?=some (.cells (toldC (v0:Int) (v1:Int) 0 0 nilV nilV nilV nilV) 179 (0,0))):=heap_setCell_same x w.heap.size 1 _ _ (.int .i64 (v1:Int)) HTa.out
 have HS2:=hid (xl HSa.out hgs (by omega))
 have HG2:=hid (xZ HGa.out hgs (Nat.le_refl _))
 clear hgs HTa HSa HGa
 generalize x.setCell _ _=W2 at *
 go_wp2_with fail
 refine (Jo p footer s2 60 W2 hs (by decide) (by decide) HS2.out).mono ?_
 rintro e x ⟨rfl,hsp,hg⟩
 have HTa:=hid (qi hg HT2.out (by omega))
 have HGa:=hid (ja HG2.out hg)
 have HSa:=hid hsp
 have hle:=xI 60 s2
 clear hg hsp HT2 HG2 HS2
 rw [show (60:Int).toNat=60 from rfl] at HSa ⊢
 generalize jJ 60 s2=y at *
 obtain ⟨v2,s3⟩:=y
 simp only at HR HP HC HSa hle ⊢
 have cc:=(xq HTa.out).2.2.1
 have ff:=frozen_of_row x w.heap.size 2 _ _ HTa.out
 go_upto_region 5 with fail
 clear cc ff
 have hgs:=zS x w.heap.size 2 (.int .i64 (v2:Int))
 have HT3:Hid ((x.setCell ⟨w.heap.size,2,none⟩ (.int .i64 (v2:Int))).heap[w.heap.size]?=some (.cells (toldC (v0:Int) (v1:Int) (v2:Int) 0 nilV nilV nilV nilV) 179 (0,0))):=heap_setCell_same x w.heap.size 2 _ _ (.int .i64 (v2:Int)) HTa.out
 have HS3:=hid (xl HSa.out hgs (by omega))
 have HG3:=hid (xZ HGa.out hgs (Nat.le_refl _))
 clear hgs HTa HSa HGa
 generalize x.setCell _ _=W3 at *
 go_wp2_with fail
 refine (Jo p footer s3 9 W3 hs (by decide) (by decide) HS3.out).mono ?_
 rintro e x ⟨rfl,hsp,hg⟩
 have HTa:=hid (qi hg HT3.out (by omega))
 have HGa:=hid (ja HG3.out hg)
 have HSa:=hid hsp
 have hle:=xI 9 s3
 clear hg hsp HT3 HG3 HS3
 rw [show (9:Int).toNat=9 from rfl] at HSa ⊢
 generalize jJ 9 s3=y at *
 obtain ⟨v3,s4⟩:=y
 simp only at HR HP HC HSa hle ⊢
 have cc:=(xq HTa.out).2.2.2.1
 have ff:=frozen_of_row x w.heap.size 3 _ _ HTa.out
 go_upto_region 6 with fail
 clear cc ff
 have hgs:=zS x w.heap.size 3 (.int .i64 (v3:Int))
 have HT4:Hid ((x.setCell ⟨w.heap.size,3,none⟩ (.int .i64 (v3:Int))).heap[w.heap.size]?=some (.cells (toldC (v0:Int) (v1:Int) (v2:Int) (v3:Int) nilV nilV nilV nilV) 179 (0,0))):=heap_setCell_same x w.heap.size 3 _ _ (.int .i64 (v3:Int)) HTa.out
 have HS4:=hid (xl HSa.out hgs (by omega))
 have HG4:=hid (xZ HGa.out hgs (Nat.le_refl _))
 clear hgs HTa HSa HGa
 generalize x.setCell _ _=W4 at *
 go_wp2_with fail
 refine (Jo p footer s4 6 W4 hs (by decide) (by decide) HS4.out).mono ?_
 rintro e W5 ⟨rfl,hsp,hg⟩
 have HT5:=hid (qi hg HT4.out (by omega))
 have HG5:=hid (ja HG4.out hg)
 have HS5:=hid hsp
 have hn6:=xI 6 s4
 clear hg hsp HT4 HG4 HS4
 rw [show (6:Int).toNat=6 from rfl] at HS5 ⊢
 generalize jJ 6 s4=y at *
 obtain ⟨n,s5⟩:=y
 simp only at HC HS5 hn6 ⊢
 go_wp2
 go_loopw [8] (fun i wr=>∃ (k:Nat) (cv:Value),k≤n∧i=.int .i64 (k:Int)∧wr.heap[w.heap.size]?=some (.cells (toldC (v0:Int) (v1:Int) (v2:Int) (v3:Int) cv nilV nilV nilV) 179 (0,0))∧wr.ownsRow (w.heap.size+1) 61 4 cv k (zQ (xJ s5 k).1)∧jS wr p footer (xJ s5 k).2∧w.grownBy wr (some p)) (fun i _=>n - (intOf i).toNat)
 case atStart=>exact ⟨0,nilV,Nat.zero_le _,rfl,HT5.out,World.ownsRow_nil _ _ _ _,HS5.out,HG5.out⟩
 case round =>
  obtain ⟨k,cv,hkn,rfl,hT,hown,hsp,hg⟩:=hrel
  have HT:=hid hT
  have HO:=hid hown
  have HS:=hid hsp
  have HG:=hid hg
  have hwz:=hg.size
  obtain ⟨va,vc,rfl⟩:=jr hown
  clear hT hown hsp hg
  by_cases hlt:k < n
  ·have hki:(k:Int) < (n:Int):=by omega
   have HST:Hid (xJ s5 (k+1)=((xJ s5 k).1++[⟨(xR 8 (xJ s5 k).2).1,((jJ 1 (xR 8 (xJ s5 k).2).2).1:Nat),((jJ 9 (jJ 1 (xR 8 (xJ s5 k).2).2).2).1:Nat),[]⟩],(jJ 9 (jJ 1 (xR 8 (xJ s5 k).2).2).2).2)):=rfl
   generalize xJ s5 k=q at *
   obtain ⟨tks,sk⟩:=q
   simp only at HO HS HST ⊢
   go_wp2_with fail
   refine (YC p footer sk 8 wr hs (by decide) (by decide) HS.out).mono ?_
   rintro e wa ⟨rfl,hsp,hg⟩
   rw [show (8:Int).toNat=8 from rfl] at hsp ⊢
   generalize xR 8 sk=y at *
   obtain ⟨nm,sa⟩:=y
   simp only at HST hsp ⊢
   have hza:=hg.size
   have HTa:=hid (Jt (.cells #[Value.string { data:=nm.toArray },.int .i64 0,.int .i64 0,.slice none 0 0] 61) (qi hg HT.out (by omega)))
   have HOa:=hid ((qS HO.out (by omega) hg).alloc (.cells #[Value.string { data:=nm.toArray },.int .i64 0,.int .i64 0,.slice none 0 0] 61))
   have HSa:=hid (zq hsp (JV hsp) (.cells #[Value.string { data:=nm.toArray },.int .i64 0,.int .i64 0,.slice none 0 0] 61))
   have HGa:=hid (xS (ja HG.out hg) (.cells #[Value.string { data:=nm.toArray },.int .i64 0,.int .i64 0,.slice none 0 0] 61))
   have Hba:=hid (qg wa #[Value.string { data:=nm.toArray },.int .i64 0,.int .i64 0,.slice none 0 0] 61).2.2.2
   have hBT:w.heap.size < wa.heap.size:=(Array.getElem?_eq_some_iff.1 (qi hg HT.out (by omega))).1
   have HOB:Hid ((Value.slice va k vc).ownBlock=none∨(Value.slice va k vc).ownBlock≠some wa.heap.size):=by
    rcases hv:(Value.slice va k vc).ownBlock with _|b
    ·exact .inl rfl
    ·refine .inr (fun e=>?_)
     have:=(HO.out.lt b hv).2
     injection e with e
     omega
   clear hsp hg HT HO HS HG
   go_wp2_with fail
   generalize hwb:wa.alloc _=wb at *
   clear hwb
   generalize hBB:wa.heap.size=B at Hba hBT hza HOB ⊢
   clear hBB
   refine (Jo p footer sa 1 wb hs (by decide) (by decide) HSa.out).mono ?_
   rintro e x ⟨rfl,hsp,hg⟩
   rw [show (1:Int).toNat=1 from rfl] at hsp ⊢
   have hl1:=xI 1 sa
   generalize jJ 1 sa=y at *
   obtain ⟨kd,sb⟩:=y
   simp only at HST hsp hl1 ⊢
   have hbx:=qi hg Hba.out (by omega)
   have HTx:=hid (qi hg HTa.out (by omega))
   have HOx:=hid (qS HOa.out (by omega) hg)
   have HGx:=hid (ja HGa.out hg)
   have cc:x.cell? ⟨B,1,none⟩=some (.int .i64 0):=by rw [cell_of_row x B 1 _ _ (0,0) hbx];rfl
   have ff:=frozen_of_row x B 1 _ _ hbx
   have Hbx:=hid hbx
   have HSx:=hid hsp
   clear hbx hsp hg HTa HOa HGa HSa Hba
   go_upto_region 12 with fail
   clear cc ff
   have hgs:=zS x B 1 (.int .i64 (kd:Int))
   have Hba:Hid ((x.setCell ⟨B,1,none⟩ (.int .i64 (kd:Int))).heap[B]?=some (.cells #[Value.string { data:=nm.toArray },.int .i64 (kd:Int),.int .i64 0,.slice none 0 0] 61 (0,0))):=heap_setCell_same x B 1 _ _ (.int .i64 (kd:Int)) Hbx.out
   have HTa:=hid (qi hgs HTx.out (by omega))
   have HOa:=hid (HOx.out.kept hgs HOB.out)
   have HSa:=hid (xl HSx.out hgs (by omega))
   have HGa:=hid (xZ HGx.out hgs (by omega))
   clear hgs Hbx HTx HOx HSx HGx
   generalize x.setCell _ _=wc at *
   go_wp2_with fail
   refine (Jo p footer sb 9 wc hs (by decide) (by decide) HSa.out).mono ?_
   rintro e x ⟨rfl,hsp,hg⟩
   rw [show (9:Int).toNat=9 from rfl] at hsp ⊢
   have hl9:=xI 9 sb
   generalize jJ 9 sb=y at *
   obtain ⟨ky,sc⟩:=y
   simp only at HST hsp hl9 ⊢
   have hbx:=qi hg Hba.out (by omega)
   have HTx:=hid (qi hg HTa.out (by omega))
   have HOx:=hid (qS HOa.out (by omega) hg)
   have HGx:=hid (ja HGa.out hg)
   have cc:x.cell? ⟨B,2,none⟩=some (.int .i64 0):=by rw [cell_of_row x B 2 _ _ (0,0) hbx];rfl
   have ff:=frozen_of_row x B 2 _ _ hbx
   have Hbx:=hid hbx
   have HSx:=hid hsp
   clear hbx hsp hg HTa HOa HGa HSa Hba
   go_upto_region 13 with fail
   clear cc ff
   have hgs:=zS x B 2 (.int .i64 (ky:Int))
   have Hba:Hid ((x.setCell ⟨B,2,none⟩ (.int .i64 (ky:Int))).heap[B]?=some (.cells #[Value.string { data:=nm.toArray },.int .i64 (kd:Int),.int .i64 (ky:Int),.slice none 0 0] 61 (0,0))):=heap_setCell_same x B 2 _ _ (.int .i64 (ky:Int)) Hbx.out
   have HTa:=hid (qi hgs HTx.out (by omega))
   have HOa:=hid (HOx.out.kept hgs HOB.out)
   have HSa:=hid (xl HSx.out hgs (by omega))
   have HGa:=hid (xZ HGx.out hgs (by omega))
   clear hgs Hbx HTx HOx HSx HGx
   generalize x.setCell _ _=wd at *
   have c5:=(xq HTa.out).2.2.2.2.2.1
   refine wp_region_held_drew (S:=fun w'=>w'.heap[B]?=some (.cells #[Value.string { data:=nm.toArray },.int .i64 (kd:Int),.int .i64 (ky:Int),.slice none 0 0] 61 (0,0))) (by kernel_rfl) Hba.out (fun hHeld=>?_)
   refine tk 0 (.pointer (some ⟨w.heap.size,0,none⟩)) ?_
   refine tk 1 (.pointer (some ⟨w.heap.size,0,none⟩)) ?_
   refine tk 2 (.pointer (some ⟨w.heap.size,0,none⟩)) ?_
   refine tk 3 (.pointer (some ⟨w.heap.size,5,none⟩)) ?_
   simp only [ga,gb,gc,Act.put,gd,ge,gf]
   refine wpAnyH_take (i:=5) (oi:=_) (v:=.agg #[Value.string { data:=nm.toArray },.int .i64 (kd:Int),.int .i64 (ky:Int),.slice none 0 0]) rfl (by kernel_rfl) (by kernel_rfl) (by kernel_rfl) (fun _ _ _ h=>h) (Or.inl ⟨by rfl,fun w hSw=>?_⟩) (by assumption) ?_
   ·have hrl:=run_loadVar_row (P:=Tryz.prog) w B 61 61 #[Value.string { data:=nm.toArray },.int .i64 (kd:Int),.int .i64 (ky:Int),.slice none 0 0] (0,0) _ hSw Tryz.underlying61 rfl (by kernel_rfl)
    unfold execOp
    simp [List.getElem_toArray,List.getElem_cons_zero,Act.eval,Instr.loadAt,Instr.sureAddr,Sem.run_bind,Sem.run_pure,Result.andThen_ok,hrl]
   simp only [ga,gb,gc,Act.put,gd,ge,gf]
   refine wpAnyH_ready (rs:=[4,6]) (by kernel_rfl) (by simp) ?_
   refine AllReadyH.cons (o:=_) rfl (fun K hK=>?_) (AllReadyH.cons (o:=_) rfl (fun K hK=>?_) AllReadyH.nil)
   ·simp only [ga,gb,gc]
    go_simp
    try go_wp2_with fail
    refine hK.out _ _ Hba.out (fun hHeld=>?_)
    clear hK K
    try simp only [ga,gb,gc,Act.put,gd,ge,gf]
    refine rd 6 (fun K hK=>?_)
    simp only [ga,gb,gc]
    go_simp
    try go_wp2_with fail
    have HbW:Hid ((wd.alloc (.cells #[Value.string { data:=nm.toArray },.int .i64 (kd:Int),.int .i64 (ky:Int),.slice none 0 0] 61)).drew.heap[B]?=some (.cells #[Value.string { data:=nm.toArray },.int .i64 (kd:Int),.int .i64 (ky:Int),.slice none 0 0] 61 (0,0))):=Jt _ Hba.out
    have HTW:Hid ((wd.alloc (.cells #[Value.string { data:=nm.toArray },.int .i64 (kd:Int),.int .i64 (ky:Int),.slice none 0 0] 61)).drew.heap[w.heap.size]?=some (.cells (toldC (v0:Int) (v1:Int) (v2:Int) (v3:Int) (.slice va k vc) nilV nilV nilV) 179 (0,0))):=Jt _ HTa.out
    have HOW:Hid ((wd.alloc (.cells #[Value.string { data:=nm.toArray },.int .i64 (kd:Int),.int .i64 (ky:Int),.slice none 0 0] 61)).drew.ownsRow (w.heap.size+1) 61 4 (.slice va k vc) k (zQ tks)):=HOa.out.alloc _
    have HSW:Hid (jS (wd.alloc (.cells #[Value.string { data:=nm.toArray },.int .i64 (kd:Int),.int .i64 (ky:Int),.slice none 0 0] 61)).drew p footer sc):=zq HSa.out (JV HSa.out) _
    have HGW:Hid (w.grownBy (wd.alloc (.cells #[Value.string { data:=nm.toArray },.int .i64 (kd:Int),.int .i64 (ky:Int),.slice none 0 0] 61)).drew (some p)):=zU (xS HGa.out _) 1
    have HNW:Hid (∀ j u,([Value.string { data:=nm.toArray },.int .i64 (kd:Int),.int .i64 (ky:Int),.slice none 0 0]:List Value)[j]?=some u→(wd.alloc (.cells #[Value.string { data:=nm.toArray },.int .i64 (kd:Int),.int .i64 (ky:Int),.slice none 0 0] 61)).drew.cell? ((⟨wd.heap.size,0,none⟩:Addr).add j)=some u):=xf wd #[Value.string { data:=nm.toArray },.int .i64 (kd:Int),.int .i64 (ky:Int),.slice none 0 0] 61 (by simp)
    have hzW:w.heap.size+1≤(wd.alloc (.cells #[Value.string { data:=nm.toArray },.int .i64 (kd:Int),.int .i64 (ky:Int),.slice none 0 0] 61)).drew.heap.size:=Nat.succ_le_of_lt (Array.getElem?_eq_some_iff.1 HTW.out).1
    have c5W:=(xq HTW.out).2.2.2.2.2.1
    refine hK.out _ _ HbW.out (fun hHeld=>?_)
    clear hK K c5
    try simp only [ga,gb,gc,Act.put,gd,ge,gf]
    generalize hWX:(wd.alloc (.cells #[Value.string { data:=nm.toArray },.int .i64 (kd:Int),.int .i64 (ky:Int),.slice none 0 0] 61)).drew=WX at *
    clear hWX
    generalize hnb:wd.heap.size=nb at HNW ⊢
    clear hnb Hba HTa HOa HSa HGa
    refine rd 7 (fun K hK=>?_)
    simp only [ga,gb,gc]
    rw [if_pos (by simp [Region.wanted])]
    refine wp_append_own _ (.tmp 57) (.tmp 59) 22 rfl (w.heap.size+1) 61 i0 _ 4 56 Tryz.underlying22 hi hz0 hz1 hz2 rfl (by decide) (.slice va k vc) k (zQ tks) rfl HOW.out ⟨nb,0,none⟩ 1 1 [Value.string { data:=nm.toArray },.int .i64 (kd:Int),.int .i64 (ky:Int),.slice none 0 0] rfl rfl HNW.out ?_ (by unfold maxLen;omega) (by omega) hzW ?_
    ·intro u hu
     simp at hu
     rcases hu with rfl|rfl|rfl|rfl<;>rfl
    intro v5 w5 hown5 hgr5 _
    have HB5:Hid (w5.heap[B]?=some (.cells #[Value.string { data:=nm.toArray },.int .i64 (kd:Int),.int .i64 (ky:Int),.slice none 0 0] 61 (0,0))):=by
     show _=_
     rw [hgr5.block B (Array.getElem?_eq_some_iff.1 HbW.out).1 (by
      intro e
      rcases HOB.out with h|h
      ·rw [h] at e;cases e
      ·exact h e.symm)]
     exact HbW.out
    have HT5':=hid (jq hgr5 HOW.out HTW.out (by decide))
    have HS5':=hid (JM HSW.out (JV HSW.out) hgr5 (fun b hb=>by have:=(HOW.out.lt b hb).1;omega))
    have HG5':Hid (w.grownBy w5 (some p)):=by
     refine ⟨hgr5.os.trans HGW.out.os,hgr5.tape.trans HGW.out.tape,hgr5.output.trans HGW.out.output,Nat.le_trans HGW.out.size hgr5.size,fun i hi hne=>(hgr5.block i (Nat.lt_of_lt_of_le hi HGW.out.size) ?_).trans (HGW.out.block i hi hne)⟩
     intro e
     have:=(HOW.out.lt i e.symm).1
     omega
    have HO5':=hid hown5
    obtain ⟨ua,uc,rfl⟩:=jr hown5
    clear hown5 hgr5 HNW HTW HOW HSW HGW HbW c5W
    refine hK.out _ _ HB5.out (fun hHeld=>?_)
    clear hK K
    try simp only [ga,gb,gc,Act.put,gd,ge,gf]
    refine tk 8 (.pointer (some ⟨w.heap.size,0,none⟩)) ?_
    refine tk 9 (.pointer (some ⟨w.heap.size,5,none⟩)) ?_
    simp only [ga,gb,gc,Act.put,gd,ge,gf]
    refine rd 10 (fun K hK=>?_)
    simp only [ga,gb,gc]
    have c5:=(xq HT5'.out).2.2.2.2.2.1
    have f5:=frozen_of_row w5 w.heap.size 5 _ _ HT5'.out
    go_simp
    try go_wp2_with fail
    have hgs:=zS w5 w.heap.size 5 (.slice ua (k+1) uc)
    have HBs:=qi hgs HB5.out (by omega)
    refine hK.out _ _ HBs (fun hHeld=>?_)
    clear hK K c5 f5
    refine wpAnyH_done (by kernel_rfl) ?_ _
    clear hHeld HBs
    have HTe:Hid ((w5.setCell ⟨w.heap.size,5,none⟩ (.slice ua (k+1) uc)).heap[w.heap.size]?=some (.cells (toldC (v0:Int) (v1:Int) (v2:Int) (v3:Int) (.slice ua (k+1) uc) nilV nilV nilV) 179 (0,0))):=heap_setCell_same w5 w.heap.size 5 _ _ _ HT5'.out
    have HOe:=hid (HO5'.out.kept hgs (by
     rcases hv:(Value.slice ua (k+1) uc).ownBlock with _|b
     ·exact .inl rfl
     ·refine .inr (fun e=>?_)
      have:=(HO5'.out.lt b hv).1
      injection e with e
      omega))
    have HSe:=hid (xl HS5'.out hgs (by omega))
    have HGe:=hid (xZ HG5'.out hgs (Nat.le_refl _))
    clear hgs HT5' HO5' HS5' HG5' HB5
    generalize w5.setCell _ _=w6 at *
    go_wp2
    go_roundw
    case rel =>
     refine ⟨k+1,_,by omega,by go_num,HTe.out,?_,?_,HGe.out⟩
     ·rw [HST.out,KY]
      exact HOe.out
     ·rw [HST.out]
      exact HSe.out
    case measure=>simp [intOf];omega
   ·simp only [ga,gb,gc]
    go_simp
    try go_wp2_with fail
    have HbW:Hid ((wd.alloc (.cells #[Value.string { data:=nm.toArray },.int .i64 (kd:Int),.int .i64 (ky:Int),.slice none 0 0] 61)).drew.heap[B]?=some (.cells #[Value.string { data:=nm.toArray },.int .i64 (kd:Int),.int .i64 (ky:Int),.slice none 0 0] 61 (0,0))):=Jt _ Hba.out
    have HTW:Hid ((wd.alloc (.cells #[Value.string { data:=nm.toArray },.int .i64 (kd:Int),.int .i64 (ky:Int),.slice none 0 0] 61)).drew.heap[w.heap.size]?=some (.cells (toldC (v0:Int) (v1:Int) (v2:Int) (v3:Int) (.slice va k vc) nilV nilV nilV) 179 (0,0))):=Jt _ HTa.out
    have HOW:Hid ((wd.alloc (.cells #[Value.string { data:=nm.toArray },.int .i64 (kd:Int),.int .i64 (ky:Int),.slice none 0 0] 61)).drew.ownsRow (w.heap.size+1) 61 4 (.slice va k vc) k (zQ tks)):=HOa.out.alloc _
    have HSW:Hid (jS (wd.alloc (.cells #[Value.string { data:=nm.toArray },.int .i64 (kd:Int),.int .i64 (ky:Int),.slice none 0 0] 61)).drew p footer sc):=zq HSa.out (JV HSa.out) _
    have HGW:Hid (w.grownBy (wd.alloc (.cells #[Value.string { data:=nm.toArray },.int .i64 (kd:Int),.int .i64 (ky:Int),.slice none 0 0] 61)).drew (some p)):=zU (xS HGa.out _) 1
    have HNW:Hid (∀ j u,([Value.string { data:=nm.toArray },.int .i64 (kd:Int),.int .i64 (ky:Int),.slice none 0 0]:List Value)[j]?=some u→(wd.alloc (.cells #[Value.string { data:=nm.toArray },.int .i64 (kd:Int),.int .i64 (ky:Int),.slice none 0 0] 61)).drew.cell? ((⟨wd.heap.size,0,none⟩:Addr).add j)=some u):=xf wd #[Value.string { data:=nm.toArray },.int .i64 (kd:Int),.int .i64 (ky:Int),.slice none 0 0] 61 (by simp)
    have hzW:w.heap.size+1≤(wd.alloc (.cells #[Value.string { data:=nm.toArray },.int .i64 (kd:Int),.int .i64 (ky:Int),.slice none 0 0] 61)).drew.heap.size:=Nat.succ_le_of_lt (Array.getElem?_eq_some_iff.1 HTW.out).1
    have c5W:=(xq HTW.out).2.2.2.2.2.1
    refine hK.out _ _ HbW.out (fun hHeld=>?_)
    clear hK K c5
    try simp only [ga,gb,gc,Act.put,gd,ge,gf]
    generalize hWX:(wd.alloc (.cells #[Value.string { data:=nm.toArray },.int .i64 (kd:Int),.int .i64 (ky:Int),.slice none 0 0] 61)).drew=WX at *
    clear hWX
    generalize hnb:wd.heap.size=nb at HNW ⊢
    clear hnb Hba HTa HOa HSa HGa
    refine rd 4 (fun K hK=>?_)
    simp only [ga,gb,gc]
    go_simp
    try go_wp2_with fail
    refine hK.out _ _ HbW.out (fun hHeld=>?_)
    clear hK K
    try simp only [ga,gb,gc,Act.put,gd,ge,gf]
    refine rd 7 (fun K hK=>?_)
    simp only [ga,gb,gc]
    rw [if_pos (by simp [Region.wanted])]
    refine wp_append_own _ (.tmp 57) (.tmp 59) 22 rfl (w.heap.size+1) 61 i0 _ 4 56 Tryz.underlying22 hi hz0 hz1 hz2 rfl (by decide) (.slice va k vc) k (zQ tks) rfl HOW.out ⟨nb,0,none⟩ 1 1 [Value.string { data:=nm.toArray },.int .i64 (kd:Int),.int .i64 (ky:Int),.slice none 0 0] rfl rfl HNW.out ?_ (by unfold maxLen;omega) (by omega) hzW ?_
    ·intro u hu
     simp at hu
     rcases hu with rfl|rfl|rfl|rfl<;>rfl
    intro v5 w5 hown5 hgr5 _
    have HB5:Hid (w5.heap[B]?=some (.cells #[Value.string { data:=nm.toArray },.int .i64 (kd:Int),.int .i64 (ky:Int),.slice none 0 0] 61 (0,0))):=by
     show _=_
     rw [hgr5.block B (Array.getElem?_eq_some_iff.1 HbW.out).1 (by
      intro e
      rcases HOB.out with h|h
      ·rw [h] at e;cases e
      ·exact h e.symm)]
     exact HbW.out
    have HT5':=hid (jq hgr5 HOW.out HTW.out (by decide))
    have HS5':=hid (JM HSW.out (JV HSW.out) hgr5 (fun b hb=>by have:=(HOW.out.lt b hb).1;omega))
    have HG5':Hid (w.grownBy w5 (some p)):=by
     refine ⟨hgr5.os.trans HGW.out.os,hgr5.tape.trans HGW.out.tape,hgr5.output.trans HGW.out.output,Nat.le_trans HGW.out.size hgr5.size,fun i hi hne=>(hgr5.block i (Nat.lt_of_lt_of_le hi HGW.out.size) ?_).trans (HGW.out.block i hi hne)⟩
     intro e
     have:=(HOW.out.lt i e.symm).1
     omega
    have HO5':=hid hown5
    obtain ⟨ua,uc,rfl⟩:=jr hown5
    clear hown5 hgr5 HNW HTW HOW HSW HGW HbW c5W
    refine hK.out _ _ HB5.out (fun hHeld=>?_)
    clear hK K
    try simp only [ga,gb,gc,Act.put,gd,ge,gf]
    refine tk 8 (.pointer (some ⟨w.heap.size,0,none⟩)) ?_
    refine tk 9 (.pointer (some ⟨w.heap.size,5,none⟩)) ?_
    simp only [ga,gb,gc,Act.put,gd,ge,gf]
    refine rd 10 (fun K hK=>?_)
    simp only [ga,gb,gc]
    have c5:=(xq HT5'.out).2.2.2.2.2.1
    have f5:=frozen_of_row w5 w.heap.size 5 _ _ HT5'.out
    go_simp
    try go_wp2_with fail
    have hgs:=zS w5 w.heap.size 5 (.slice ua (k+1) uc)
    have HBs:=qi hgs HB5.out (by omega)
    refine hK.out _ _ HBs (fun hHeld=>?_)
    clear hK K c5 f5
    refine wpAnyH_done (by kernel_rfl) ?_ _
    clear hHeld HBs
    have HTe:Hid ((w5.setCell ⟨w.heap.size,5,none⟩ (.slice ua (k+1) uc)).heap[w.heap.size]?=some (.cells (toldC (v0:Int) (v1:Int) (v2:Int) (v3:Int) (.slice ua (k+1) uc) nilV nilV nilV) 179 (0,0))):=heap_setCell_same w5 w.heap.size 5 _ _ _ HT5'.out
    have HOe:=hid (HO5'.out.kept hgs (by
     rcases hv:(Value.slice ua (k+1) uc).ownBlock with _|b
     ·exact .inl rfl
     ·refine .inr (fun e=>?_)
      have:=(HO5'.out.lt b hv).1
      injection e with e
      omega))
    have HSe:=hid (xl HS5'.out hgs (by omega))
    have HGe:=hid (xZ HG5'.out hgs (Nat.le_refl _))
    clear hgs HT5' HO5' HS5' HG5' HB5
    generalize w5.setCell _ _=w6 at *
    go_wp2
    go_roundw
    case rel =>
     refine ⟨k+1,_,by omega,by go_num,HTe.out,?_,?_,HGe.out⟩
     ·rw [HST.out,KY]
      exact HOe.out
     ·rw [HST.out]
      exact HSe.out
    case measure=>simp [intOf];omega
  ·have hke:k=n:=by omega
   subst hke
   clear hlt
   have hty:=CH s5 k
   have HSM:Hid (∀ c ∈ (xJ s5 k).1,SmallC c):=fun c hc=>by
    obtain ⟨h1,h2,h3,h4⟩:=VZ s5 k c hc
    exact ⟨h1,h2,⟨h3,h4⟩,Ug s5 k c hc⟩
   obtain ⟨ta,tc,hva,_,hlies⟩:=Vv HO.out hty HSM.out
   injection hva with hva1 hva2 hva3
   subst hva1 hva3
   clear hva2
   have Hli:=hid hlies
   have Hty:=hid hty
   have HHD:Hid (ZJ foot footer=(!(xJ s5 k).2.isNone && (qU ⟨(v1:Int),(v2:Int),(v3:Int),false⟩ && (jV (xJ s5 k).1 && decide ((v3:Int)=(foot:Int)))))):=by
    show _=_
    unfold ZJ
    rw [HC.out,HP.out]
   clear hlies hty
   obtain ⟨d0,d1,d2,d3,d4,d5,_⟩:=xq HT.out
   go_wp2_with fail
   clear d0 d1 d2 d3 d4 d5
   refine (Et ⟨(v1:Int),(v2:Int),(v3:Int),false⟩ wr).mono ?_
   rintro e wx ⟨rfl,hbx⟩
   have HTx:=hid (jb hbx HT.out)
   have HSx:Hid (jS wx p footer (xJ s5 k).2):=JM HS.out (JV HS.out) (Ks hbx) (fun b hb=>by cases hb)
   have HOx:=hid (jw HO.out hbx)
   have HGx:=hid (Gg HG.out hbx)
   have Hlx:=hid (Hli.out.later hbx)
   clear hbx HT HS HO HG Hli
   obtain ⟨d0,d1,d2,d3,d4,d5,_⟩:=xq HTx.out
   generalize qU ⟨(v1:Int),(v2:Int),(v3:Int),false⟩=bp at *
   go_wp2_with fail
   clear d0 d1 d2 d3 d4 d5
   have HHE:=hid (YP va vc (xJ s5 k).1 wx (by rw [Hty.out];unfold maxLen;omega) Hlx.out)
   rw [Hty.out] at HHE
   refine HHE.out.mono ?_
   rintro e wy ⟨rfl,hby⟩
   have HTz:=hid (jb hby HTx.out)
   have HSz:Hid (jS wy p footer (xJ s5 k).2):=JM HSx.out (JV HSx.out) (Ks hby) (fun b hb=>by cases hb)
   have HOz:=hid (jw HOx.out hby)
   have HGz:=hid (Gg HGx.out hby)
   clear hby HTx HSx HOx HGx Hlx HHE
   generalize jV (xJ s5 k).1=bh at *
   have HTE:Hid (wy.drew.heap[w.heap.size]?=some (.cells (toldC (qK footer:Int) (zm footer).group (zm footer).page (zm footer).foot (.slice va k vc) nilV nilV nilV) 179 (0,0))):=by
    show _=_
    rw [HR.out,HP.out]
    exact HTz.out
   have HOE:Hid (wy.drew.ownsRow w.heap.size 61 4 (.slice va k vc) (xO footer).1.length (zQ (xO footer).1)):=by
    show World.ownsRow _ _ _ _ _ _ _
    rw [HC.out,Hty.out]
    exact jy HOz.out (Nat.le_succ _)
   have k3:=(xq HTz.out).2.2.2.1
   have k2:=Ko HSz.out
   go_upto_region 16 with fail
   generalize (xJ s5 k).2=sz at *
   rcases sz with _|sz
   ·simp only [JN] at k2
    refine wp_region_held_drew (S:=fun w'=>w'.cell? ⟨p,2,none⟩=some (.bool true)∧w'.cell? ⟨w.heap.size,3,none⟩=some (.int .i64 (v3:Int))) (by kernel_rfl) ⟨k2,k3⟩ (fun hHeld=>?_)
    refine tk 0 (.pointer (some ⟨w.heap.size,0,none⟩)) ?_
    refine tk 1 (.pointer (some ⟨p,0,none⟩)) ?_
    refine tk 2 (.pointer (some ⟨p,0,none⟩)) ?_
    refine tk 3 (.pointer (some ⟨p,2,none⟩)) ?_
    refine tk 4 (.bool true) ?_
    refine tk 5 (.bool false) ?_
    refine tk 6 (.bool false) ?_
    refine tu 7 ?_
    refine tk 8 (.bool false) ?_
    refine tk 9 (.bool false) ?_
    refine tu 10 ?_
    refine tk 11 (.bool false) ?_
    refine tk 12 (.bool false) ?_
    refine tu 13 ?_
    refine tu 14 ?_
    refine tu 15 ?_
    refine tu 16 ?_
    refine tu 17 ?_
    refine tu 18 ?_
    refine tu 19 ?_
    refine tk 20 (.bool false) ?_
    refine tk 21 (.pointer (some ⟨w.heap.size,0,none⟩)) ?_
    refine tk 22 (.bool false) ?_
    simp only [ga,gb,gc,Act.put,gd,ge,gf]
    refine wpAnyH_done (by kernel_rfl) ?_ _
    clear hHeld
    go_wp2
    go_ret2
    refine ⟨zU HGz.out 1,w.heap.size,_,?_,Nat.le_refl _,HTE.out,HOE.out⟩
    rw [HHD.out]
    rfl
   ·simp only [JN] at k2
    cases bp with
    | false =>
     refine wp_region_held_drew (S:=fun w'=>w'.cell? ⟨p,2,none⟩=some (.bool false)∧w'.cell? ⟨w.heap.size,3,none⟩=some (.int .i64 (v3:Int))) (by kernel_rfl) ⟨k2,k3⟩ (fun hHeld=>?_)
     refine tk 0 (.pointer (some ⟨w.heap.size,0,none⟩)) ?_
     refine tk 1 (.pointer (some ⟨p,0,none⟩)) ?_
     refine tk 2 (.pointer (some ⟨p,0,none⟩)) ?_
     refine tk 3 (.pointer (some ⟨p,2,none⟩)) ?_
     refine tk 4 (.bool false) ?_
     refine tk 5 (.bool true) ?_
     refine tk 6 (.bool true) ?_
     refine tk 7 (.bool false) ?_
     refine tk 8 (.bool false) ?_
     refine tk 9 (.bool false) ?_
     refine tu 10 ?_
     refine tk 11 (.bool false) ?_
     refine tk 12 (.bool false) ?_
     refine tu 13 ?_
     refine tu 14 ?_
     refine tu 15 ?_
     refine tu 16 ?_
     refine tu 17 ?_
     refine tu 18 ?_
     refine tu 19 ?_
     refine tk 20 (.bool false) ?_
     refine tk 21 (.pointer (some ⟨w.heap.size,0,none⟩)) ?_
     refine tk 22 (.bool false) ?_
     simp only [ga,gb,gc,Act.put,gd,ge,gf]
     refine wpAnyH_done (by kernel_rfl) ?_ _
     clear hHeld
     go_wp2
     go_ret2
     refine ⟨zU HGz.out 1,w.heap.size,_,?_,Nat.le_refl _,HTE.out,HOE.out⟩
     rw [HHD.out]
     rfl
    | true =>
     cases bh with
     | false =>
      refine wp_region_held_drew (S:=fun w'=>w'.cell? ⟨p,2,none⟩=some (.bool false)∧w'.cell? ⟨w.heap.size,3,none⟩=some (.int .i64 (v3:Int))) (by kernel_rfl) ⟨k2,k3⟩ (fun hHeld=>?_)
      refine tk 0 (.pointer (some ⟨w.heap.size,0,none⟩)) ?_
      refine tk 1 (.pointer (some ⟨p,0,none⟩)) ?_
      refine tk 2 (.pointer (some ⟨p,0,none⟩)) ?_
      refine tk 3 (.pointer (some ⟨p,2,none⟩)) ?_
      refine tk 4 (.bool false) ?_
      refine tk 5 (.bool true) ?_
      refine tk 6 (.bool true) ?_
      refine tk 7 (.bool true) ?_
      refine tk 8 (.bool true) ?_
      refine tk 9 (.bool true) ?_
      refine tk 10 (.bool false) ?_
      refine tk 11 (.bool false) ?_
      refine tk 12 (.bool false) ?_
      refine tu 13 ?_
      refine tu 14 ?_
      refine tu 15 ?_
      refine tu 16 ?_
      refine tu 17 ?_
      refine tu 18 ?_
      refine tu 19 ?_
      refine tk 20 (.bool false) ?_
      refine tk 21 (.pointer (some ⟨w.heap.size,0,none⟩)) ?_
      refine tk 22 (.bool false) ?_
      simp only [ga,gb,gc,Act.put,gd,ge,gf]
      refine wpAnyH_done (by kernel_rfl) ?_ _
      clear hHeld
      go_wp2
      go_ret2
      refine ⟨zU HGz.out 1,w.heap.size,_,?_,Nat.le_refl _,HTE.out,HOE.out⟩
      rw [HHD.out]
      rfl
     | true =>
      by_cases hft:v3=foot
      ·have hbq:((v3:Int) == (foot:Int))=true:=by rw [beq_iff_eq];omega
       have hdq:decide ((v3:Int)=(foot:Int))=true:=decide_eq_true (by omega)
       rw [hdq] at HHD
       clear hdq hft
       refine wp_region_held_drew (S:=fun w'=>w'.cell? ⟨p,2,none⟩=some (.bool false)∧w'.cell? ⟨w.heap.size,3,none⟩=some (.int .i64 (v3:Int))) (by kernel_rfl) ⟨k2,k3⟩ (fun hHeld=>?_)
       refine tk 0 (.pointer (some ⟨w.heap.size,0,none⟩)) ?_
       refine tk 1 (.pointer (some ⟨p,0,none⟩)) ?_
       refine tk 2 (.pointer (some ⟨p,0,none⟩)) ?_
       refine tk 3 (.pointer (some ⟨p,2,none⟩)) ?_
       refine tk 4 (.bool false) ?_
       refine tk 5 (.bool true) ?_
       refine tk 6 (.bool true) ?_
       refine tk 7 (.bool true) ?_
       refine tk 8 (.bool true) ?_
       refine tk 9 (.bool true) ?_
       refine tk 10 (.bool true) ?_
       refine tk 11 (.bool true) ?_
       refine tk 12 (.bool true) ?_
       refine tk 13 (.pointer (some ⟨w.heap.size,0,none⟩)) ?_
       refine tk 14 (.pointer (some ⟨w.heap.size,0,none⟩)) ?_
       refine tk 15 (.pointer (some ⟨w.heap.size,1,none⟩)) ?_
       refine tk 16 (.pointer (some ⟨w.heap.size,3,none⟩)) ?_
       refine tk 17 (.int .i64 (v3:Int)) ?_
       refine tk 18 (.int .i64 (foot:Int)) ?_
       refine tk 19 (.bool true) ?_
       refine tk 20 (.bool true) ?_
       refine tk 21 (.pointer (some ⟨w.heap.size,0,none⟩)) ?_
       refine tk 22 (.bool true) ?_
       simp only [ga,gb,gc,Act.put,gd,ge,gf]
       refine wpAnyH_done (by kernel_rfl) ?_ _
       clear hHeld
       go_wp2
       go_ret2
       refine ⟨zU HGz.out 1,w.heap.size,_,?_,Nat.le_refl _,HTE.out,HOE.out⟩
       rw [HHD.out]
       rfl
      ·have hbq:((v3:Int) == (foot:Int))=false:=by rw [beq_eq_false_iff_ne];omega
       have hdq:decide ((v3:Int)=(foot:Int))=false:=decide_eq_false (by omega)
       rw [hdq] at HHD
       clear hdq hft
       refine wp_region_held_drew (S:=fun w'=>w'.cell? ⟨p,2,none⟩=some (.bool false)∧w'.cell? ⟨w.heap.size,3,none⟩=some (.int .i64 (v3:Int))) (by kernel_rfl) ⟨k2,k3⟩ (fun hHeld=>?_)
       refine tk 0 (.pointer (some ⟨w.heap.size,0,none⟩)) ?_
       refine tk 1 (.pointer (some ⟨p,0,none⟩)) ?_
       refine tk 2 (.pointer (some ⟨p,0,none⟩)) ?_
       refine tk 3 (.pointer (some ⟨p,2,none⟩)) ?_
       refine tk 4 (.bool false) ?_
       refine tk 5 (.bool true) ?_
       refine tk 6 (.bool true) ?_
       refine tk 7 (.bool true) ?_
       refine tk 8 (.bool true) ?_
       refine tk 9 (.bool true) ?_
       refine tk 10 (.bool true) ?_
       refine tk 11 (.bool true) ?_
       refine tk 12 (.bool true) ?_
       refine tk 13 (.pointer (some ⟨w.heap.size,0,none⟩)) ?_
       refine tk 14 (.pointer (some ⟨w.heap.size,0,none⟩)) ?_
       refine tk 15 (.pointer (some ⟨w.heap.size,1,none⟩)) ?_
       refine tk 16 (.pointer (some ⟨w.heap.size,3,none⟩)) ?_
       refine tk 17 (.int .i64 (v3:Int)) ?_
       refine tk 18 (.int .i64 (foot:Int)) ?_
       refine tk 19 (.bool false) ?_
       refine tk 20 (.bool false) ?_
       refine tk 21 (.pointer (some ⟨w.heap.size,0,none⟩)) ?_
       refine tk 22 (.bool false) ?_
       simp only [ga,gb,gc,Act.put,gd,ge,gf]
       refine wpAnyH_done (by kernel_rfl) ?_ _
       clear hHeld
       go_wp2
       go_ret2
       refine ⟨zU HGz.out 1,w.heap.size,_,?_,Nat.le_refl _,HTE.out,HOE.out⟩
       rw [HHD.out]
       rfl
end
section
def JT (M:List ModF):List Value:=M.map fun m=>strB m.plain
def zO (M:List ModF):List Value:=M.flatMap fun m=>[strB m.nonce,strB m.body]
theorem UZ (M:List ModF) (m:ModF):JT (M++[m])=JT M++[strB m.plain]:=by simp [JT]
theorem KU (M:List ModF) (m:ModF):zO (M++[m])=zO M++[strB m.nonce,strB m.body]:=by simp [zO]
theorem qM {w:World} {b s n T:Nat} {e t:TypeId} {v:Value} {xs:List Value} {cs:Array Value} {fr:Nat × Nat} (h:w.ownsRow b e s v n xs) (hT:w.heap[T]?=some (.cells cs t fr)) (hne:e≠t):v.ownBlock=none∨v.ownBlock≠some T:=by
 rcases h.2 with ⟨rfl,_⟩|⟨g,cap,cur,rfl,_,hg,_⟩
 ·exact .inl rfl
 ·right
  intro e'
  injection e' with e'
  subst e'
  rw [hT] at hg
  injection hg with hg
  injection hg with h1 h2 h3
  exact hne h2.symm
theorem UV {w:World} {base n:Nat} {sa:Option Addr} {sc:Nat} {L:List SpotB} (h:w.ownsRow base 161 6 (.slice sa n sc) n (JA L)) (k:Nat) (hk:k < L.length) :
  ∃ g,sa=some ⟨g,0,none⟩∧g < w.heap.size∧w.cell? ⟨g,k*6,none⟩=some (strB [(L[k]).sort])∧w.cell? ⟨g,k*6+1,none⟩=some (.int .i64 ((L[k]).g:Int))∧w.cell? ⟨g,k*6+2,none⟩=some (.int .i64 ((L[k]).c:Int))∧w.cell? ⟨g,k*6+3,none⟩=some (.int .i64 ((L[k]).p:Int))∧w.cell? ⟨g,k*6+4,none⟩=some (.int .i64 ((L[k]).start:Int))∧w.cell? ⟨g,k*6+5,none⟩=some (.int .i64 ((L[k]).many:Int)):=by
 have hl:(JA L).length=L.length*6:=XW Ku 6 (fun _=>rfl) L
 have hn:n=L.length:=by have:=h.1;omega
 have at_:∀ i,i < 6→(JA L)[k*6+i]?=(Ku L[k])[i]?:=fun i hi=>Xm Ku 6 (fun _=>rfl) L k i hk hi
 rcases h.2 with ⟨h0,h1⟩|⟨g,cap,cur,hv,_⟩
 ·omega
 ·simp only [Value.slice.injEq] at hv
  obtain ⟨rfl,_,rfl⟩:=hv
  refine ⟨g,rfl,(h.lt g rfl).2,?_,?_,?_,?_,?_,?_⟩
  ·rw [h.cellAt _ (by omega)];exact at_ 0 (by decide)
  ·rw [h.cellAt _ (by omega)];exact at_ 1 (by decide)
  ·rw [h.cellAt _ (by omega)];exact at_ 2 (by decide)
  ·rw [h.cellAt _ (by omega)];exact at_ 3 (by decide)
  ·rw [h.cellAt _ (by omega)];exact at_ 4 (by decide)
  ·rw [h.cellAt _ (by omega)];exact at_ 5 (by decide)
theorem YT {w:World} {base n:Nat} {ca:Option Addr} {cc:Nat} {t:List ColB} (h:w.ownsRow base 61 4 (.slice ca n cc) n (zQ t)) (k:Nat) (hk:k < t.length) :
  ∃ g,ca=some ⟨g,0,none⟩∧g < w.heap.size∧w.cell? ⟨g,k*4,none⟩=some (strB (t[k]).name)∧w.cell? ⟨g,k*4+1,none⟩=some (.int .i64 (t[k]).kind)∧w.cell? ⟨g,k*4+2,none⟩=some (.int .i64 (t[k]).key)∧w.cell? ⟨g,k*4+3,none⟩=some nilV:=by
 have hl:(zQ t).length=t.length*4:=XW EH 4 (fun _=>rfl) t
 have hn:n=t.length:=by have:=h.1;omega
 have at_:∀ i,i < 4→(zQ t)[k*4+i]?=(EH t[k])[i]?:=fun i hi=>Xm EH 4 (fun _=>rfl) t k i hk hi
 rcases h.2 with ⟨h0,h1⟩|⟨g,cap,cur,hv,_⟩
 ·omega
 ·simp only [Value.slice.injEq] at hv
  obtain ⟨rfl,_,rfl⟩:=hv
  refine ⟨g,rfl,(h.lt g rfl).2,?_,?_,?_,?_⟩
  ·rw [h.cellAt _ (by omega)];exact at_ 0 (by decide)
  ·rw [h.cellAt _ (by omega)];exact at_ 1 (by decide)
  ·rw [h.cellAt _ (by omega)];exact at_ 2 (by decide)
  ·rw [h.cellAt _ (by omega)];exact at_ 3 (by decide)
structure LAt (x w:World) (T q:Nat) (H:Value→Value→Array Value) (t:List ColB) (L:List SpotB) (cv sv pv ev xv:Value) (np:Nat) (M:List Value) (ne:Nat) (E:List Value) (parts:List UInt8) (st:Option (List UInt8)) (pl:List Nat):Prop where
 told:x.heap[T]?=some (.cells (H pv ev) 179 (0,0))
 cols:x.ownsRow w.heap.size 61 4 cv t.length (zQ t)
 spots:x.ownsRow w.heap.size 161 6 sv L.length (JA L)
 plains:x.ownsRow w.heap.size 9 1 pv np M
 seals:x.ownsRow w.heap.size 167 2 ev ne E
 spot:jS x q parts st
 places:x.ownsRow w.heap.size 3 1 xv pl.length (zx pl)
 below:Below w.heap.size w x
 tlow:w.heap.size≤T
 qlow:w.heap.size≤q
 apart:T≠q
section
variable {x y w:World} {T q:Nat} {H:Value→Value→Array Value} {t:List ColB} {L:List SpotB} {cv sv pv ev xv:Value} {np:Nat} {M:List Value} {ne:Nat} {E:List Value} {parts:List UInt8} {st:Option (List UInt8)} {pl:List Nat}
theorem LAt.later (h:LAt x w T q H t L cv sv pv ev xv np M ne E parts st pl) (hb:Below x.heap.size x y):LAt y w T q H t L cv sv pv ev xv np M ne E parts st pl :=
 ⟨jb hb h.told,jw h.cols hb,jw h.spots hb,jw h.plains hb,jw h.seals hb,JM h.spot (JV h.spot) (Ks hb) (fun b hb=>by cases hb),jw h.places hb,h.below.trans (hb.mono h.below.size),h.tlow,h.qlow,h.apart⟩
theorem LAt.alloc (h:LAt x w T q H t L cv sv pv ev xv np M ne E parts st pl) (o:Obj):LAt (x.alloc o) w T q H t L cv sv pv ev xv np M ne E parts st pl :=
 h.later ((Below.refl x.heap.size x).alloc (Nat.le_refl _) o)
theorem LAt.drew (h:LAt x w T q H t L cv sv pv ev xv np M ne E parts st pl):LAt x.drew w T q H t L cv sv pv ev xv np M ne E parts st pl :=
 h.later (qa (Below.refl x.heap.size x))
theorem LAt.read (h:LAt x w T q H t L cv sv pv ev xv np M ne E parts st pl) {st':Option (List UInt8)} (hg:x.grownBy y (some q)) (hs:jS y q parts st'):LAt y w T q H t L cv sv pv ev xv np M ne E parts st' pl:=by
 obtain ⟨at_,bad,hrow,_⟩:=h.spot
 exact ⟨qi hg h.told h.apart,h.cols.kept hg (qM h.cols hrow (by decide)),h.spots.kept hg (qM h.spots hrow (by decide)),h.plains.kept hg (qM h.plains hrow (by decide)),h.seals.kept hg (qM h.seals hrow (by decide)),hs,h.places.kept hg (qM h.places hrow (by decide)),h.below.trans (jg hg h.qlow h.below.size),h.tlow,h.qlow,h.apart⟩
theorem zY {x y w:World} {b:Option Nat} (h:Below w.heap.size w x) (hg:x.grownBy y b) (hb:∀ k,b=some k→w.heap.size≤k):Below w.heap.size w y :=
 h.trans ⟨hg.os,hg.tape,hg.output,hg.size,fun k hk=>hg.block k (Nat.lt_of_lt_of_le hk h.size) (fun e=>by have:=hb k e.symm;omega)⟩
theorem Ua {x y:World} {b e s n q:Nat} {v:Value} {xs:List Value} {parts:List UInt8} {st:Option (List UInt8)} (h:jS x q parts st) (hg:x.grownBy y v.ownBlock) (ho:x.ownsRow b e s v n xs) (he:243≠e):jS y q parts st:=by
 obtain ⟨at_,bad,hrow,hat,hst⟩:=h
 exact ⟨at_,bad,jq hg ho hrow he,hat,hst⟩
theorem LAt.put (h:LAt x w T q H t L cv sv pv ev xv np M ne E parts st pl) {v:Value} {pl':List Nat} (hg:x.grownBy y xv.ownBlock) (ho:y.ownsRow w.heap.size 3 1 v pl'.length (zx pl')):LAt y w T q H t L cv sv pv ev v np M ne E parts st pl' :=
 ⟨jq hg h.places h.told (by decide),h.cols.kept hg (qc h.cols h.places (by decide)),h.spots.kept hg (qc h.spots h.places (by decide)),h.plains.kept hg (qc h.plains h.places (by decide)),h.seals.kept hg (qc h.seals h.places (by decide)),Ua h.spot hg h.places (by decide),ho,zY h.below hg (fun k hk=>(h.places.lt k hk).1),h.tlow,h.qlow,h.apart⟩
theorem LAt.plain (h:LAt x w T q H t L cv sv pv ev xv np M ne E parts st pl) {v:Value} {n':Nat} {M':List Value} (hg:x.grownBy y pv.ownBlock) (ho:y.ownsRow w.heap.size 9 1 v n' M') (hH:∀ a b v',(H a b).setIfInBounds 7 v'=H v' b):LAt (y.setCell ⟨T,7,none⟩ v) w T q H t L cv sv v ev xv n' M' ne E parts st pl:=by
 have hT:=jq hg h.plains h.told (by decide)
 have hc:=h.cols.kept hg (qc h.cols h.plains (by decide))
 have hs:=h.spots.kept hg (qc h.spots h.plains (by decide))
 have he:=h.seals.kept hg (qc h.seals h.plains (by decide))
 have hp:=h.places.kept hg (qc h.places h.plains (by decide))
 have hq:=Ua h.spot hg h.plains (by decide)
 have hB:=zY h.below hg (fun k hk=>(h.plains.lt k hk).1)
 have hset:=zS y T 7 v
 refine ⟨?_,hc.kept hset (qM hc hT (by decide)),hs.kept hset (qM hs hT (by decide)),ho.kept hset (qM ho hT (by decide)),he.kept hset (qM he hT (by decide)),xl hq hset (fun e=>h.apart e.symm),hp.kept hset (qM hp hT (by decide)),hB.trans (jg hset h.tlow hB.size),h.tlow,h.qlow,h.apart⟩
 rw [heap_setCell_same y T 7 _ _ v hT,hH]
theorem LAt.module (h:LAt x w T q H t L cv sv pv ev xv np M ne E parts st pl) {v:Value} {n':Nat} {E':List Value} (hg:x.grownBy y ev.ownBlock) (ho:y.ownsRow w.heap.size 167 2 v n' E') (hH:∀ a b v',(H a b).setIfInBounds 8 v'=H a v'):LAt (y.setCell ⟨T,8,none⟩ v) w T q H t L cv sv pv v xv np M n' E' parts st pl:=by
 have hT:=jq hg h.seals h.told (by decide)
 have hc:=h.cols.kept hg (qc h.cols h.seals (by decide))
 have hs:=h.spots.kept hg (qc h.spots h.seals (by decide))
 have he:=h.plains.kept hg (qc h.plains h.seals (by decide))
 have hp:=h.places.kept hg (qc h.places h.seals (by decide))
 have hq:=Ua h.spot hg h.seals (by decide)
 have hB:=zY h.below hg (fun k hk=>(h.seals.lt k hk).1)
 have hset:=zS y T 8 v
 refine ⟨?_,hc.kept hset (qM hc hT (by decide)),hs.kept hset (qM hs hT (by decide)),he.kept hset (qM he hT (by decide)),ho.kept hset (qM ho hT (by decide)),xl hq hset (fun e=>h.apart e.symm),hp.kept hset (qM hp hT (by decide)),hB.trans (jg hset h.tlow hB.size),h.tlow,h.qlow,h.apart⟩
 rw [heap_setCell_same y T 8 _ _ v hT,hH]
theorem zG {x:World} {b e s n B:Nat} {v:Value} {xs:List Value} (h:x.ownsRow b e s v n xs) (hB:x.heap.size≤B):v.ownBlock=none∨v.ownBlock≠some B:=by
 rcases hv:v.ownBlock with _|g
 ·exact .inl rfl
 ·refine .inr (fun e=>?_)
  have:=(h.lt g hv).2
  injection e with e
  omega
theorem LAt.later_row (h:LAt x w T q H t L cv sv pv ev xv np M ne E parts st pl) (B:Nat) (cs:Array Value) {old:Array Value} (hB:x.heap[B]?=some (.cells old 167 (0,0))) (hw:w.heap.size≤B) (hT:T≠B) (hq:q≠B) (he:ev.ownBlock=none∨ev.ownBlock≠some B):LAt (x.setRow B cs) w T q H t L cv sv pv ev xv np M ne E parts st pl:=by
 have hg:=Qy x B cs
 exact ⟨qi hg h.told hT,h.cols.kept hg (qM h.cols hB (by decide)),h.spots.kept hg (qM h.spots hB (by decide)),h.plains.kept hg (qM h.plains hB (by decide)),h.seals.kept hg he,xl h.spot hg hq,h.places.kept hg (qM h.places hB (by decide)),h.below.trans (jg hg hw h.below.size),h.tlow,h.qlow,h.apart⟩
theorem LAt.spotc {sg sc:Nat} (h:LAt x w T q H t L cv (.slice (some ⟨sg,0,none⟩) L.length sc) pv ev xv np M ne E parts st pl) (k:Nat) (hk:k < L.length):x.cell? ⟨sg,k*6,none⟩=some (strB [(L[k]).sort])∧x.cell? ⟨sg,k*6+2,none⟩=some (.int .i64 ((L[k]).c:Int)):=by
 obtain ⟨g,hg,_,h0,_,h2,_⟩:=UV h.spots k hk
 simp only [Option.some.injEq,Addr.mk.injEq,and_true] at hg
 subst hg
 exact ⟨h0,h2⟩
theorem LAt.keyc {cg cc:Nat} (h:LAt x w T q H t L (.slice (some ⟨cg,0,none⟩) t.length cc) sv pv ev xv np M ne E parts st pl) (c:Nat) (hc:c < t.length):x.cell? ⟨cg,c*4+2,none⟩=some (.int .i64 (t[c]).key):=by
 obtain ⟨g,hg,_,_,_,h2,_⟩:=YT h.cols c hc
 simp only [Option.some.injEq,Addr.mk.injEq,and_true] at hg
 subst hg
 exact h2
end
theorem Ed {t:List ColB} {parts:List UInt8} {L:List SpotB} {k at_:Nat} {bad:Bool} {s:SpotB} {pl:List Nat} {M:List ModF} {st st':Option (List UInt8)} {m:ModF} (hs:L[k]?=some s) (hM:qI t (some parts) (L.take k)=(M,st)) (hat:at_≤parts.length) (hst:st=if bad=true then none else some (parts.drop at_)) (hm:Kt (jk t s.c).key st=(m,st')) (h65:parts.length≤65000)
  (h1:pl.length=(jp t 4 true (L.take k) M).length) (h2:∀ x ∈ pl,x≤70000) (h3:∀ rest,st=some rest→pl=jp t 4 true (L.take k) M) :
  (pl++(if qF true (L.take k)=true then [4+at_] else [])).length=(jp t 4 true (L.take (k+1)) (M++[m])).length∧(∀ x ∈ pl++(if qF true (L.take k)=true then [4+at_] else []),x≤70000)∧∀ rest,st'=some rest→pl++(if qF true (L.take k)=true then [4+at_] else [])=jp t 4 true (L.take (k+1)) (M++[m]):=by
 have hk:k < L.length:=(List.getElem?_eq_some_iff.1 hs).1
 have hl:M.length=k:=by
  have:=Ya t (some parts) (L.take k)
  rw [hM,List.length_take] at this
  simp only at this
  omega
 rw [Gx hs hl m]
 refine ⟨?_,?_,?_⟩
 ·rw [List.length_append,List.length_append,h1]
  split<;>rfl
 ·intro x hx
  rcases List.mem_append.1 hx with hx|hx
  ·exact h2 x hx
  ·split at hx
   ·simp at hx
    omega
   ·cases hx
 ·intro rest hr
  cases st with
  | none=>rw [RK] at hm;injection hm with _ hm;rw [hr] at hm;cases hm
  | some r =>
   rw [h3 r rfl]
   obtain ⟨_,hp,_⟩:=Co hM
   cases bad with
   | true=>cases hst
   | false =>
    simp at hst
    have hd:at_=(jl t (L.take k) M).length:=by
     have h4:=congrArg List.length hp
     rw [List.length_append,hst,List.length_drop] at h4
     omega
    rw [hd]
theorem Vf {t:List ColB}:∀ (L:List SpotB) (M:List ModF) (n:Nat) (b:Bool),(jp t n b L M).length≤L.length:=by
 intro L
 induction L with
 | nil=>intro M n b;simp [jp]
 | cons s L ih =>
  intro M n b
  cases M with
  | nil=>simp [jp]
  | cons m M =>
   have:=ih M (n+(qC (jk t s.c).key m).length) (decide (s.sort=77))
   simp only [jp,List.length_append,List.length_cons]
   split<;>simp<;>omega
theorem Yp {t:List ColB} {R C G P:Nat} {M:List ModF} (hM:M.length=(jC R C G P).length) (hG:1≤G) (hR:R≤60) (hC:C≤6):(jp t 4 true (jC R C G P) M).length≤360:=by
 rw [XM ⟨[],⟨0,0,0,false⟩,[],0⟩ [] _ _ _ _ ⟨[],[]⟩ hM]
 have h1:(zz ⟨[],⟨0,0,0,false⟩,[],0⟩ [] ⟨[],[]⟩ true (jC R C G P)).length=jW R G*C:=Zi _ _ _ _ _ _ _ _
 have h2:=Xe (n:=R) hG
 have h3:jW R G*C≤60*6:=Nat.mul_le_mul (by omega) hC
 omega
theorem RJ {R C G P:Nat} (hG:1≤G) (hP:1≤P) (hG6:G≤60) (hR:R≤60) (hC:C≤6):(jC R C G P).length≤21960:=by
 have h1:=Ry R C G P (jW R G) hP hG6 hC
 have h2:=Xe (n:=R) hG
 unfold jC
 omega
def ToldAt (w:World) (T base:Nat) (S:SheetF):Prop :=
 ∃ cv sv pv ev,w.heap[T]?=some (.cells (toldC (S.rows:Int) S.plan.group S.plan.page S.plan.foot cv sv pv ev) 179 (0,0))∧w.ownsRow base 61 4 cv S.cols.length (zQ S.cols)∧w.ownsRow base 161 6 sv (qx S).length (JA (qx S))∧w.ownsRow base 9 1 pv S.mods.length (JT S.mods)∧w.ownsRow base 167 2 ev S.mods.length (zO S.mods)
def LG (f:FormF) (footer:List UInt8) (w:World) (e:Ending) (w':World):Prop :=
 Below w.heap.size w w'∧((Gt f.foot f.parts footer=none∧∃ v,e=.returned (.tuple #[v,.bool false]))∨∃ S T,Gt f.foot f.parts footer=some S∧e=.returned (.tuple #[.pointer (some ⟨T,0,none⟩),.bool true])∧ToldAt w' T w.heap.size S)
theorem Tryz.infoModule:(Tryz.prog.info? 167).map (fun i=>(i.zero,i.size,i.bytes))=some (some (.agg #[.string ⟨#[]⟩,.string ⟨#[]⟩]),2,32):=by kernel_rfl
end
end Go.Proofs.YthhpbhpfagoapaaGreat
