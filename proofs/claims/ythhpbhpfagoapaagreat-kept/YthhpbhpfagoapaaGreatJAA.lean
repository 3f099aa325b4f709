import Derived.Test.YthhpbhpfagoapaaGreatJAR
import Derived.Test.YthhpbhpfagoapaaGreatJAQ
import Derived.Test.YthhpbhpfagoapaaGreatJAN
import Derived.Test.YthhpbhpfagoapaaGreatKMake
import Derived.Test.YthhpbhpfagoapaaGreatJAB
import Derived.Test.YthhpbhpfagoapaaGreatJAK
namespace Go.Proofs.YthhpbhpfagoapaaGreat
set_option linter.unusedVariables false
set_option linter.unusedSimpArgs false
set_option maxRecDepth 100000
set_option maxHeartbeats 16000000
open Go.RowKit
section
theorem own_mono {w:World} {b b' e s n:Nat} {v:Value} {xs:List Value} (h:w.ownsRow b e s v n xs) (hb:b'≤b):w.ownsRow b' e s v n xs:=by
 obtain ⟨h1,h2⟩:=h
 refine ⟨h1,?_⟩
 rcases h2 with h2|⟨g,cap,cur,hv,hg,rest⟩
 ·exact .inl h2
 ·exact .inr ⟨g,cap,cur,hv,Nat.le_trans hb hg,rest⟩
theorem lies_fits {w:World} {a:Option Addr} {t:List ColB} (h:LiesT w a t):∀ c ∈ t,∀ x ∈ c.cells,-9223372036854775808≤x.int∧x.int≤9223372036854775807:=by
 intro c hc x hx
 obtain ⟨k,hk,rfl⟩:=List.mem_iff_getElem.1 hc
 obtain ⟨b,off,_,_,hcell⟩:=h.at_ (List.ne_nil_of_length_pos (by omega))
 obtain ⟨_,_,_,v,_,ca,cap,_,_,hl,_⟩:=hcell k hk
 obtain ⟨h0,h1,_⟩:=hl.ok x hx
 exact ⟨h0,h1⟩
theorem good_of_err {j:JobB} {r:List KeyB} (h:jobErrB j r=0) (hf:∀ c ∈ j.table,∀ x ∈ c.cells,-9223372036854775808≤x.int∧x.int≤9223372036854775807):GoodJ j r:=by
 unfold jobErrB at h
 split at h
 ·omega
 ·rename_i h1
  split at h
  ·omega
  ·rename_i h2
   split at h
   ·omega
   ·rename_i h3
    split at h
    ·omega
    ·rename_i h4
     simp only [Bool.not_eq_false,Bool.and_eq_true,decide_eq_true_eq] at h1 h2 h3 h4
     exact ⟨⟨h1,hf⟩,h2.1,h2.2.1,h2.2.2,h3,by simpa using h4⟩
theorem box_job {w:World} {b:Nat} {v:Value} {j:JobB} (h:w.heap[b]?=some (.cells #[v,.int .i64 j.plan.group,.int .i64 j.plan.page,.int .i64 j.plan.foot,.bool j.plan.told,strB j.pre,.int .i64 j.draw] 26 (0,0))) :
  w.cell? ⟨b,0,none⟩=some v∧w.cell? ⟨b,1,none⟩=some (.int .i64 j.plan.group)∧w.cell? ⟨b,2,none⟩=some (.int .i64 j.plan.page)∧w.cell? ⟨b,3,none⟩=some (.int .i64 j.plan.foot)∧w.cell? ⟨b,4,none⟩=some (.bool j.plan.told) :=
 ⟨by rw [cell_of_heap h];rfl,by rw [cell_of_heap h];rfl,by rw [cell_of_heap h];rfl,by rw [cell_of_heap h];rfl,by rw [cell_of_heap h];rfl⟩
theorem fwrite_any (ta:Option Addr) (tcap:Nat) (ra:Option Addr) (rcap:Nat) (r:List KeyB) (j:JobB) (w:World) (hL:Laid w ta tcap ra rcap j r) :
  Calls Tryz.prog 76 #[jobV (.slice ta j.table.length tcap) j,.slice ra r.length rcap] w
   fun e w'=>∃ lv,e=.returned (.tuple #[strB (fileB j r),lv])∧w'.ownsRow w.heap.size 40 4 lv (logB j r).length (sealsC (logB j r))∧Below w.heap.size w w':=by
 have HL:=hid hL
 obtain ⟨hpl,hpb,hft⟩:=hL.good.foot
 have Hpb:=hid hpb
 obtain ⟨hbo,hbg⟩:=hL.good.body (spotsJ j).length
 rw [List.take_length] at hbo hbg
 have hf0:=hL.good.sizes.2.2
 have h1:=hL.good.table.few.1
 have HFB:Hid (fileB j r=(endSt j r (footJ j r) (bodySt j r)).out++(twoB (((endSt j r (footJ j r) (bodySt j r)).out.length - (bodySt j r).out.length:Nat):Int)++[67,70])):=rfl
 have HLB:Hid (logB j r=(endSt j r (footJ j r) (bodySt j r)).log):=rfl
 clear hL hpb
 go_enter Tryz.func76,Tryz.ntmps76
 go_wp2_with fail
 obtain ⟨hbA,_,_,hhA⟩:=boxedW w #[.slice ta j.table.length tcap,.int .i64 j.plan.group,.int .i64 j.plan.page,.int .i64 j.plan.foot,.bool j.plan.told,strB j.pre,.int .i64 j.draw] 26
 have hsz:(w.alloc (.cells #[.slice ta j.table.length tcap,.int .i64 j.plan.group,.int .i64 j.plan.page,.int .i64 j.plan.foot,.bool j.plan.told,strB j.pre,.int .i64 j.draw] 26)).heap.size=w.heap.size+1:=by simp
 generalize w.alloc (.cells #[.slice ta j.table.length tcap,.int .i64 j.plan.group,.int .i64 j.plan.page,.int .i64 j.plan.foot,.bool j.plan.told,strB j.pre,.int .i64 j.draw] 26)=wa at *
 obtain ⟨hbB,_,_,hhB⟩:=boxedW wa (pressC (.slice ta j.table.length tcap) (.slice ra r.length rcap) (.slice none 0 0) (.slice none 0 0) j) 231
 have HLA:Hid (Laid wa ta tcap ra rcap j r):=⟨HL.out.table.later hbA,HL.out.ring.later hbA,HL.out.len,HL.out.good,HL.out.caps⟩
 have HP0:Hid (PressAt (wa.alloc (.cells (pressC (.slice ta j.table.length tcap) (.slice ra r.length rcap) (.slice none 0 0) (.slice none 0 0) j) 231)) wa.heap.size wa.heap.size (.slice ta j.table.length tcap) (.slice ra r.length rcap) j ⟨[],[]⟩) :=
  ⟨_,_,hhB,Nat.le_refl _,World.ownsRow_nil _ _ _ _,World.ownsRow_nil _ _ _ _⟩
 have hjB:=heap_later hbB hhA
 rw [← hsz]
 clear hhB hsz
 generalize wa.alloc _=wb at *
 have HbA:=hid hbA
 have HbB:=hid hbB
 have HjB:=hid hjB
 clear hbA hbB hjB hhA
 generalize hqq:wa.heap.size=q at *
 have Hqq:=hid hqq
 have hqb:q≤wb.heap.size:=by have:=HbB.out.size;rw [hqq] at this;exact this
 clear hqq
 refine (head_does j.plan wb hf0.1 hf0.2).mono ?_
 rintro e w1 ⟨rfl,hb1⟩
 have hB1:Below q wa w1:=HbB.out.trans (hb1.mono hqb)
 go_wp2_with fail
 obtain ⟨hb2,_,_,hh2⟩:=boxedW w1 #[strB (startB j.plan)] 9
 have hB2:Below q wa (w1.alloc (.cells #[strB (startB j.plan)] 9)):=hB1.trans (hb2.mono (Nat.le_trans hqb hb1.size))
 refine (pwrite_any q q w1.heap.size 1 (.slice ta j.table.length tcap) (.slice ra r.length rcap) j ⟨[],[]⟩ [startB j.plan] _ rfl (by decide) (by simp [startB]) ?_ ((HP0.out.later hb1).later hb2) hh2).mono ?_
 ·exact Nat.le_trans hqb (Nat.le_trans hb1.size hb2.size)
 rintro e w3 ⟨rfl,hp3,hk3⟩
 have hp3':PressAt w3 q q (.slice ta j.table.length tcap) (.slice ra r.length rcap) j ⟨startB j.plan,[]⟩:=by simpa using hp3
 have Hp3:=hid hp3'
 have hB3:Below q wa w3:=hB2.trans hk3.below
 have HJ3:=hid (hk3.row (heap_later hb2 (heap_later hb1 HjB.out)) (by decide))
 clear hp3 hp3' hk3 hh2 hb2 hb1 hB1 hB2 HjB HP0
 go_wp2_with fail
 have Hch:=pchunks_any q ta tcap ra rcap r j ⟨startB j.plan,[]⟩ wa w3 HLA.out (by rw [Hqq.out];exact hB3) (by simp [startB]) rfl (by rw [Hqq.out];exact Hp3.out)
 rw [Hqq.out] at Hch
 refine Hch.mono ?_
 clear Hch
 rintro e w4 ⟨pv,rfl,ho4,hp4,hk4⟩
 have Ho4:Hid (w4.ownsRow w3.heap.size 3 1 pv (placesJ j r).length (placesC (placesJ j r))):=ho4
 have Hp4:Hid (PressAt w4 q q (.slice ta j.table.length tcap) (.slice ra r.length rcap) j (bodySt j r)):=hp4
 have hB4:Below q wa w4:=hB3.trans hk4.below
 have HJ4:=hid (hk4.row HJ3.out (by decide))
 clear ho4 hp4 hk4 HJ3 hB3 Hp3
 obtain ⟨pa,pc,rfl,_⟩:=places_at Ho4.out
 go_wp2_with fail
 have hj4:=HJ4.out
 have HRW:=hid (fun w'=>prows_any q ta tcap (.slice ra r.length rcap) j (bodySt j r) q w' (by omega))
 have HEN:Hid (∀ w',Below q wa w'→w'.ownsRow w3.heap.size 3 1 (.slice pa (placesJ j r).length pc) (placesJ j r).length (placesC (placesJ j r))→PressAt w' q q (.slice ta j.table.length tcap) (.slice ra r.length rcap) j (bodySt j r) →
   Calls Tryz.prog 141 #[.pointer (some ⟨q,0,none⟩),.agg #[.int .i64 (rowsB j.table:Int),.int .i64 j.plan.group,.int .i64 j.plan.page,.int .i64 j.plan.foot,.bool j.plan.told,.slice ta j.table.length tcap,.slice pa (placesJ j r).length pc]] w'
    fun e w2=>e=.returned (.tuple #[])∧PressAt w2 q q (.slice ta j.table.length tcap) (.slice ra r.length rcap) j ⟨fileB j r,logB j r⟩∧KeptT pressT q w' w2):=by
  intro w' hw' ho' hp'
  have:=pend_any q ta tcap ra rcap r j (bodySt j r) (.slice pa (placesJ j r).length pc) (placesJ j r) w3.heap.size wa w' HLA.out (by rw [Hqq.out];exact hw') hbo (Nat.le_trans hbg (by decide)) hpl Hpb.out hft ho' (by rw [Hqq.out];exact hp')
  rw [Hqq.out] at this
  exact this
 clear hbo hbg
 generalize bodySt j r=bst at *
 generalize placesJ j r=plj at *
 go_region_held3 (fun w'=>w'.cell? ⟨w.heap.size,0,none⟩=some (.slice ta j.table.length tcap)∧w'.cell? ⟨w.heap.size,1,none⟩=some (.int .i64 j.plan.group)∧w'.cell? ⟨w.heap.size,2,none⟩=some (.int .i64 j.plan.page)∧w'.cell? ⟨w.heap.size,3,none⟩=some (.int .i64 j.plan.foot)∧w'.cell? ⟨w.heap.size,4,none⟩=some (.bool j.plan.told))
  (first|exact box_job Y6|exact box_job hj4)
  (first
   | (go_at_call 142;refine (HRW.out _ (HLA.out.table.later (by rw [Hqq.out];exact hB4.drew)) (Hp4.out.later (self_drew _))).mono ?_;rintro e w5 ⟨rfl,rfl⟩)
   | (go_at_call 141;refine (HEN.out _ hB4.drew (own_after Ho4.out (self_drew _)) (Hp4.out.later (self_drew _))).mono ?_;rintro e w6 ⟨rfl,hp6,hk6⟩;have Y6:=(KeptT.undrew hk6).row hj4 (by decide)))
 have hk6':=KeptT.undrew hk6
 have HB6:Hid (Below w.heap.size w w6):=by
  have h6:Below q wa w6:=hB4.trans hk6'.below
  exact HbA.out.trans (h6.mono (by rw [← Hqq.out];exact HbA.out.size))
 have hBq6:w.heap.size≤q:=by rw [← Hqq.out];exact HbA.out.size
 obtain ⟨ov,lv,hrow6,_,hout6,hlog6⟩:=hp6
 simp only at hout6 hlog6
 obtain ⟨oa,oc,rfl⟩:=own_slice hout6
 obtain ⟨la,lc,rfl⟩:=own_slice hlog6
 have HL6:=hid (own_mono hlog6 hBq6)
 have c8:=(press_cells hrow6).1.2.2.2.2.2.2.1
 have c9:=(press_cells hrow6).1.2.2.2.2.2.2.2
 have hcv:∀ n,Sem.run Tryz.prog (convert 149 9 (.slice oa (fileB j r).length oc)) (w6.drewN n)=.ok (strB (fileB j r)) (w6.drewN n):=fun n=>conv_any (W:=w6.drewN n) (base:=q) (n:=(fileB j r).length) hout6
 clear Y6 hj4 hrow6 hout6 hlog6 hk6 hk6' hB4 HFB HLB
 generalize hFF:fileB j r=FF at *
 have HFF:=hid hFF
 generalize hLG:logB j r=LG at *
 have HLG:=hid hLG
 clear hFF hLG
 go_wp2_with fail
 go_quiet (fail)
 go_wp2
 go_ret2
 rw [HFF.out,HLG.out]
 exact ⟨_,rfl,HL6.out,below_drewN HB6.out nq⟩
theorem write_does (ta:Option Addr) (tcap:Nat) (ra:Option Addr) (rcap:Nat) (r:List KeyB) (j:JobB) (w:World) (hj:LiesJ w ta tcap j) (hr:LiesK w ra r) (hrm:r.length≤maxLen) :
  Calls Tryz.prog 33 #[jobV (.slice ta j.table.length tcap) j,.slice ra r.length rcap] w
   fun e w'=>Below w.heap.size w w'∧((jobErrB j r≠0∧e=.returned (.tuple #[strB [],.slice none 0 0,.int .i64 (jobErrB j r)])) ∨
    (jobErrB j r=0∧∃ lv,e=.returned (.tuple #[strB (fileB j r),lv,.int .i64 0])∧w'.ownsRow w.heap.size 40 4 lv (logB j r).length (sealsC (logB j r)))):=by
 have Hj:=hid hj
 have Hr:=hid hr
 have HGE:=hid (fun h=>good_of_err (j:=j) (r:=r) h (lies_fits hj.table))
 clear hj hr
 go_enter Tryz.func33,Tryz.ntmps33
 go_wp2_with fail
 obtain ⟨hb0,hs1,_,_⟩:=boxedW w #[.slice ta j.table.length tcap,.int .i64 j.plan.group,.int .i64 j.plan.page,.int .i64 j.plan.foot,.bool j.plan.told,strB j.pre,.int .i64 j.draw] 26
 have Hx0:=hid (boxJ_new w (.slice ta j.table.length tcap) j 26)
 have Hj0:=hid (Hj.out.later hb0)
 have Hr0:=hid (Hr.out.later hb0)
 have Hb0:=hid hb0
 clear hb0
 generalize w.alloc _=w0 at *
 refine (checkJob_any ta tcap j ra rcap r w0 Hj0.out Hr0.out hrm).mono ?_
 rintro e w1 ⟨rfl,hb1⟩
 have hB1:=Hb0.out.trans (hb1.mono Hb0.out.size)
 by_cases hz:jobErrB j r=0
 ·have HG:=hid (HGE.out hz)
  have Hz:=hid hz
  rw [hz]
  clear hz
  obtain ⟨x0,x1,x2,x3,x4,x5,x6⟩:=Hx0.out.later hs1 hb1
  go_wp2_with fail
  refine (fwrite_any ta tcap ra rcap r j w1 ⟨Hj0.out.table.later hb1,Hr0.out.later hb1,hrm,HG.out,Hj0.out.cap_⟩).mono ?_
  rintro e w2 ⟨lv,rfl,ho2,hb2⟩
  have HB2:=hid (hB1.trans (hb2.mono hB1.size))
  have HO2:=hid (own_mono ho2 hB1.size)
  clear x0 x1 x2 x3 x4 x5 x6 ho2 hb2 hb1 hB1
  generalize hFF:fileB j r=FF at *
  have HFF:=hid hFF
  generalize hLG:logB j r=LG at *
  have HLG:=hid hLG
  clear hFF hLG
  go_wp2
  refine bodyPost_ret (v:=.tuple #[strB FF,lv,.int .i64 0]) (by simp [results,Tryz.results33,go_sem]) rfl ?_
  rw [HFF.out,HLG.out]
  exact ⟨HB2.out,.inr ⟨Hz.out,lv,rfl,HO2.out⟩⟩
 ·have hz2:(jobErrB j r != 0)=true:=by simpa using hz
  have Hz:=hid hz
  clear hz
  generalize hER:jobErrB j r=er at *
  have HER:=hid hER
  clear hER
  go_wp2
  refine bodyPost_ret (v:=.tuple #[strB [],.slice none 0 0,.int .i64 er]) (by simp [results,Tryz.results33,go_sem]) rfl ?_
  rw [HER.out]
  exact ⟨hB1,.inl ⟨Hz.out,rfl⟩⟩
end
section
theorem err_of_good {j:JobB} {r:List KeyB} (h:GoodJ j r):jobErrB j r=0:=by
 unfold jobErrB
 rw [if_neg (by rw [h.table.ok];simp),if_neg,if_neg (by rw [h.ring];simp),if_neg (by rw [h.has];simp)]
 rw [h.plan]
 have:=h.pre
 have:=h.draw
 simp
 omega
theorem file_ne (j:JobB) (r:List KeyB):(fileB j r).isEmpty=false:=by
 unfold fileB
 simp [List.isEmpty_eq_false_iff]
theorem written_any (ta:Option Addr) (tcap:Nat) (ra:Option Addr) (rcap:Nat) (r:List KeyB) (j:JobB) (w:World) (hj:LiesJ w ta tcap j) (hr:LiesK w ra r) (hrm:r.length≤maxLen) (hg:GoodJ j r) :
  Calls Tryz.prog 28 #[jobV (.slice ta j.table.length tcap) j,.slice ra r.length rcap] w
   fun e w'=>∃ lv,e=.returned (.tuple #[strB (fileB j r),lv,.bool true])∧w'.ownsRow w.heap.size 40 4 lv (logB j r).length (sealsC (logB j r))∧Below w.heap.size w w':=by
 have Hj:=hid hj
 have Hr:=hid hr
 have hz:=err_of_good hg
 have Hz:=hid hz
 have hfe:=file_ne j r
 clear hj hr hz
 go_enter Tryz.func28,Tryz.ntmps28
 go_wp2_with fail
 obtain ⟨hb0,hs0,_,_⟩:=boxedW w #[.slice ta j.table.length tcap,.int .i64 j.plan.group,.int .i64 j.plan.page,.int .i64 j.plan.foot,.bool j.plan.told,strB j.pre,.int .i64 j.draw] 26
 have Hj0:=hid (Hj.out.later hb0)
 have Hr0:=hid (Hr.out.later hb0)
 have Hb0:=hid hb0
 clear hb0
 generalize w.alloc (.cells #[.slice ta j.table.length tcap,.int .i64 j.plan.group,.int .i64 j.plan.page,.int .i64 j.plan.foot,.bool j.plan.told,strB j.pre,.int .i64 j.draw] 26)=w0 at *
 refine (write_does ta tcap ra rcap r j w0 Hj0.out Hr0.out hrm).mono ?_
 rintro e w1 ⟨hb1,hcase⟩
 obtain ⟨lv,rfl,hl⟩:∃ lv,e=.returned (.tuple #[strB (fileB j r),lv,.int .i64 0])∧w1.ownsRow w0.heap.size 40 4 lv (logB j r).length (sealsC (logB j r)):=by
  rcases hcase with ⟨hne,_⟩|⟨_,h⟩
  ·exact absurd Hz.out hne
  ·exact h
 have HL:=hid (own_mono hl Hb0.out.size)
 have HB:=hid (Hb0.out.trans (hb1.mono Hb0.out.size))
 clear hcase hl hb1
 generalize hF:fileB j r=F at *
 have HF:=hid hF
 clear hF
 go_wp2
 refine bodyPost_ret (v:=.tuple #[strB F,lv,.bool true]) (by simp [results,Tryz.results28,go_sem]) rfl ?_
 exact ⟨lv,by rw [HF.out],HL.out,HB.out⟩
end
section
theorem ring_ok (c:Int):ringOkB (ringRaw c 0)=true∧(∀ n:Int,1≤n→n≤5→hasNumB (ringRaw c 0) n=true)∧(ringRaw c 0).length=5∧∀ x ∈ ringRaw c 0,okKey x:=by
 have hz:∀ n,outB 0 n=false:=by
  intro n
  have h:∀ x:Int,bits .and .i64 0 x=0:=by
   intro x
   show IntKind.i64.wrap ((BitVec.ofInt 64 0 &&& BitVec.ofInt 64 x).toNat:Nat)=0
   simp
   decide
  unfold outB
  rw [h]
  rfl
 have e:ringRaw c 0=[⟨1,rawSecB c 1⟩,⟨2,rawSecB c 2⟩,⟨3,rawSecB c 3⟩,⟨4,rawSecB c 4⟩,⟨5,rawSecB c 5⟩]:=by
  simp [ringRaw,ringB,hz]
 rw [e]
 have l:=fun n=>rawSecB_length c n
 refine ⟨?_,?_,rfl,?_⟩
 ·simp [ringOkB,ringTo,keyOkB,hasNumB,l]
 ·intro n h1 h5
  have:n=1∨n=2∨n=3∨n=4∨n=5:=by omega
  rcases this with rfl|rfl|rfl|rfl|rfl<;>simp [hasNumB]
 ·intro x hx
  simp only [List.mem_cons,List.not_mem_nil,or_false] at hx
  rcases hx with rfl|rfl|rfl|rfl|rfl<;>exact ⟨by rw [l];decide,by dsimp only;omega,by dsimp only;omega⟩
theorem good_of_heads {raw:List Int} {pre:List UInt8} {c:Int} {t:List ColB} (hlen:t.length=colsRaw raw) (ht:∀ k (hk:k < t.length),(t[k]).name=nameRaw k∧(t[k]).kind=kindRaw raw k∧(t[k]).key=pickB (atB raw (10+k)) 5)
  (hc:∀ x ∈ t,x.cells.length=rowsRaw raw∧∀ y ∈ x.cells,fitsB x.kind y=true∧inI64 y.int):GoodJ ⟨t,planRaw raw,pre.take 20,pickB (atB raw 2) 65536⟩ (ringRaw c 0):=by
 obtain ⟨h1,h4⟩:=colsRaw_range raw
 have hr:=rowsRaw_range raw
 have hd:=pickB_range (atB raw 2) 65536 (by decide)
 obtain ⟨r1,r2,_,_⟩:=ring_ok c
 have hkey:∀ k,0≤pickB (atB raw (10+k)) 5∧pickB (atB raw (10+k)) 5 < 5:=fun k=>pickB_range _ 5 (by decide)
 refine ⟨good_raw t (rowsRaw raw) (by omega) (by omega) (by omega) (fun k hk=>?_) hc,planRaw_ok raw,?_,⟨by simp only;omega,by simp only;omega⟩,r1,?_⟩
 ·obtain ⟨a,b,d⟩:=ht k hk
  have:=hkey k
  exact ⟨a,by rw [b];exact kindRaw_range raw k,by rw [d];omega,by rw [d];omega⟩
 ·simp only [List.length_take];omega
 ·simp only [missesB,Bool.or_eq_false_iff,Bool.not_eq_false',List.any_eq_false,Bool.and_eq_true,decide_eq_true_eq,Bool.not_eq_true']
  refine ⟨r2 5 (by decide) (by decide),fun x hx=>?_⟩
  obtain ⟨k,hk,rfl⟩:=List.mem_iff_getElem.1 hx
  rw [(ht k hk).2.2]
  have:=hkey k
  rintro ⟨h0,h⟩
  rw [r2 _ (by omega) (by omega)] at h
  cases h
theorem good_jobRaw (raw:List Int) (pre:List UInt8) (c:Int) (hr:∀ x ∈ raw,inI64 x):GoodJ (jobRaw raw pre) (ringRaw c 0):=by
 refine good_of_heads (tableRaw_length _ _) (fun k hk=>?_) (fun x hx=>?_)
 ·rw [tableRaw_at];exact ⟨rfl,rfl,rfl⟩
 ·obtain ⟨k,hk,rfl⟩:=List.mem_iff_getElem.1 hx
  rw [tableRaw_at]
  refine ⟨by simp [colRaw],fun y hy=>?_⟩
  simp only [colRaw,List.mem_map,List.mem_range] at hy
  obtain ⟨m,_,rfl⟩:=hy
  exact cellRaw_fits _ _ (kindRaw_range raw k) (atB_range raw _ hr)
end
section
def PackDoes:Prop:=∀ (kind:Int) (a:Option Addr) (cap:Nat) (l:List CellB) (w:World),-9223372036854775808≤kind→kind≤9223372036854775807→l.length*32≤140737488351232→l.length≤cap→Lies w a l →
 Calls Tryz.prog 23 #[.int .i64 kind,.slice a l.length cap] w fun e w'=>e=.returned (.tuple #[strB (packS kind l),.int .i64 (packE kind l)])∧Below w.heap.size w w'
theorem ret_two {a b:List UInt8} {c d:Int} (h:a=b) (h2:c=d):Ending.returned (.tuple #[strB a,.int .i64 c])=.returned (.tuple #[strB b,.int .i64 d]):=by rw [h,h2]
theorem pack_does:PackDoes:=by
 intro kind a cap l w h0 h1 hm hc hl
 have Hl:=hid hl
 clear hl
 cases hk:(decide (kind=0) || decide (kind=1)) with
 | false =>
  have HN:Hid (cellsOkB kind l=false):=by simp [Hid,cellsOkB,hk]
  have Hk:=hid hk
  clear hk
  go_enter Tryz.func23,Tryz.ntmps23
  go_wp2_with fail
  refine (kind_any kind w).mono ?_
  rintro e w1 ⟨rfl,rfl⟩
  rw [Hk.out]
  go_wp2
  go_ret2
  exact ⟨ret_two (by simp [packS,HN.out]) (by simp [packE,HN.out]),Below.refl _ _⟩
 | true =>
  have hk2:kind=0∨kind=1:=by simpa using hk
  have Hk2:=hid hk2
  have Hk:=hid hk
  clear hk hk2
  have HN:Hid (cellsOkB kind l=(decide (l.length≤60) && l.all (fitsB kind))):=by
   have:=Hk.out
   simp only [Hid,cellsOkB]
   rw [this];simp
  cases hok:(decide (l.length≤60) && l.all (fitsB kind)) with
  | false =>
   have Hok:=hid hok
   clear hok
   go_enter Tryz.func23,Tryz.ntmps23
   go_wp2_with fail
   refine (kind_any kind w).mono ?_
   rintro e w1 ⟨rfl,rfl⟩
   rw [Hk.out]
   go_wp2_with fail
   refine (areCells_any kind a cap l _ (by omega) Hl.out).mono ?_
   rintro e w2 ⟨rfl,hb2⟩
   rw [Hok.out]
   go_wp2
   go_ret2
   exact ⟨ret_two (by simp [packS,HN.out,Hok.out]) (by simp [packE,HN.out,Hok.out]),hb2⟩
  | true =>
   have Hok:=hid hok
   clear hok
   have HOK:Hid (cellsOkB kind l=true):=by
    show cellsOkB kind l=true
    rw [HN.out];exact Hok.out
   have HS:=hid (ok_small HOK.out Hl.out.ok)
   go_enter Tryz.func23,Tryz.ntmps23
   go_wp2_with fail
   refine (kind_any kind w).mono ?_
   rintro e w1 ⟨rfl,rfl⟩
   rw [Hk.out]
   go_wp2_with fail
   refine (areCells_any kind a cap l _ (by omega) Hl.out).mono ?_
   rintro e w2 ⟨rfl,hb2⟩
   rw [Hok.out]
   go_wp2_with fail
   refine (page_does kind a cap l _ Hk2.out HS.out.2 HS.out.1 (Hl.out.later hb2)).mono ?_
   rintro e w3 ⟨rfl,hb3⟩
   go_wp2
   go_ret2
   exact ⟨ret_two (by simp [packS,HOK.out]) (by simp [packE,HOK.out]),hb2.trans (hb3.mono hb2.size)⟩
end
end Go.Proofs.YthhpbhpfagoapaaGreat
