import Derived.Test.YthhpbhpfagoapabGreatJAQ
import Derived.Test.YthhpbhpfagoapabGreatJAI
import Derived.Test.YthhpbhpfagoapabGreatJAR
import Derived.Test.YthhpbhpfagoapabGreatKMake
import Derived.Test.YthhpbhpfagoapabGreatJAZ
import Derived.Lib.AppendZeros
namespace Go.Proofs.YthhpbhpfagoapabGreat
set_option linter.unusedVariables false
set_option linter.unusedSimpArgs false
set_option maxRecDepth 100000
set_option maxHeartbeats 16000000
open Go.RowKit
section
theorem Vy {w:World} {b b' e s n:Nat} {v:Value} {xs:List Value} (h:w.ownsRow b e s v n xs) (hb:b'≤b):w.ownsRow b' e s v n xs:=by
 obtain ⟨h1,h2⟩:=h
 refine ⟨h1,?_⟩
 rcases h2 with h2|⟨g,cap,cur,hv,hg,rest⟩
 ·exact .inl h2
 ·exact .inr ⟨g,cap,cur,hv,Nat.le_trans hb hg,rest⟩
theorem YW {w:World} {a:Option Addr} {t:List ColB} (h:LiesT w a t):∀ c ∈ t,∀ x ∈ c.cells,-9223372036854775808≤x.int∧x.int≤9223372036854775807:=by
 intro c hc x hx
 obtain ⟨k,hk,rfl⟩:=List.mem_iff_getElem.1 hc
 obtain ⟨b,off,_,_,hcell⟩:=h.at_ (List.ne_nil_of_length_pos (by omega))
 obtain ⟨_,_,_,v,_,ca,cap,_,_,hl,_⟩:=hcell k hk
 obtain ⟨h0,h1,_⟩:=hl.ok x hx
 exact ⟨h0,h1⟩
theorem Gy {j:JobB} {r:List KeyB} (h:zD j r=0) (hf:∀ c ∈ j.table,∀ x ∈ c.cells,-9223372036854775808≤x.int∧x.int≤9223372036854775807):GoodJ j r:=by
 unfold zD at h
 split at h
 ·omega
 ·rename_i h1
  split at h
  ·omega
  ·rename_i h2
   split at h
   ·omega
   ·rename_i h3
    split at h
    ·omega
    ·rename_i h4
     simp only [Bool.not_eq_false,Bool.and_eq_true,decide_eq_true_eq] at h1 h2 h3 h4
     exact ⟨⟨h1,hf⟩,h2.1,h2.2.1,h2.2.2,h3,by simpa using h4⟩
theorem Cm {w:World} {b:Nat} {v:Value} {j:JobB} (h:w.heap[b]?=some (.cells #[v,.int .i64 j.plan.group,.int .i64 j.plan.page,.int .i64 j.plan.foot,.bool j.plan.told,strB j.pre,.int .i64 j.draw] 27 (0,0))) :
  w.cell? ⟨b,0,none⟩=some v∧w.cell? ⟨b,1,none⟩=some (.int .i64 j.plan.group)∧w.cell? ⟨b,2,none⟩=some (.int .i64 j.plan.page)∧w.cell? ⟨b,3,none⟩=some (.int .i64 j.plan.foot)∧w.cell? ⟨b,4,none⟩=some (.bool j.plan.told) :=
 ⟨by rw [jb h];rfl,by rw [jb h];rfl,by rw [jb h];rfl,by rw [jb h];rfl,by rw [jb h];rfl⟩
theorem DG (ta:Option Addr) (tcap:Nat) (ra:Option Addr) (rcap:Nat) (r:List KeyB) (j:JobB) (w:World) (hL:Laid w ta tcap ra rcap j r) :
  Calls Tryz.prog 37 #[jobV (.slice ta j.table.length tcap) j,.slice ra r.length rcap] w
   fun e w'=>∃ lv,e=.returned (.tuple #[strB (zu j r),lv])∧w'.ownsRow w.heap.size 54 4 lv (Jf j r).length (qF (Jf j r))∧Below w.heap.size w w':=by
 have HL:=hid hL
 obtain ⟨hpl,hpb,hft⟩:=hL.good.foot
 have Hpb:=hid hpb
 obtain ⟨hbo,hbg⟩:=hL.good.body (qE j).length
 rw [List.take_length] at hbo hbg
 have hf0:=hL.good.sizes.2.2
 have h1:=hL.good.table.few.1
 have HFB:Hid (zu j r=(zY j r (xY j r) (xw j r)).out++(qQ (((zY j r (xY j r) (xw j r)).out.length - (xw j r).out.length:Nat):Int)++[67,70])):=rfl
 have HLB:Hid (Jf j r=(zY j r (xY j r) (xw j r)).log):=rfl
 clear hL hpb
 go_enter Tryz.func37,Tryz.ntmps37
 go_wp2_with fail
 obtain ⟨hbA,_,_,hhA⟩:=jJ w #[.slice ta j.table.length tcap,.int .i64 j.plan.group,.int .i64 j.plan.page,.int .i64 j.plan.foot,.bool j.plan.told,strB j.pre,.int .i64 j.draw] 27
 have hsz:(w.alloc (.cells #[.slice ta j.table.length tcap,.int .i64 j.plan.group,.int .i64 j.plan.page,.int .i64 j.plan.foot,.bool j.plan.told,strB j.pre,.int .i64 j.draw] 27)).heap.size=w.heap.size+1:=by simp
 generalize w.alloc (.cells #[.slice ta j.table.length tcap,.int .i64 j.plan.group,.int .i64 j.plan.page,.int .i64 j.plan.foot,.bool j.plan.told,strB j.pre,.int .i64 j.draw] 27)=wa at *
 obtain ⟨hbB,_,_,hhB⟩:=jJ wa (pressC (.slice ta j.table.length tcap) (.slice ra r.length rcap) (.slice none 0 0) (.slice none 0 0) j) 131
 have HLA:Hid (Laid wa ta tcap ra rcap j r):=⟨HL.out.table.later hbA,HL.out.ring.later hbA,HL.out.len,HL.out.good,HL.out.caps⟩
 have HP0:Hid (PressAt (wa.alloc (.cells (pressC (.slice ta j.table.length tcap) (.slice ra r.length rcap) (.slice none 0 0) (.slice none 0 0) j) 131)) wa.heap.size wa.heap.size (.slice ta j.table.length tcap) (.slice ra r.length rcap) j ⟨[],[]⟩) :=
  ⟨_,_,hhB,Nat.le_refl _,World.ownsRow_nil _ _ _ _,World.ownsRow_nil _ _ _ _⟩
 have hjB:=jd hbB hhA
 rw [← hsz]
 clear hhB hsz
 generalize wa.alloc _=wb at *
 have HbA:=hid hbA
 have HbB:=hid hbB
 have HjB:=hid hjB
 clear hbA hbB hjB hhA
 generalize hqq:wa.heap.size=q at *
 have Hqq:=hid hqq
 have hqb:q≤wb.heap.size:=by have:=HbB.out.size;rw [hqq] at this;exact this
 clear hqq
 refine (Pd j.plan wb hf0.1 hf0.2).mono ?_
 rintro e w1 ⟨rfl,hb1⟩
 have hB1:Below q wa w1:=HbB.out.trans (hb1.mono hqb)
 go_wp2_with fail
 obtain ⟨hb2,_,_,hh2⟩:=jJ w1 #[strB (zt j.plan)] 9
 have hB2:Below q wa (w1.alloc (.cells #[strB (zt j.plan)] 9)):=hB1.trans (hb2.mono (Nat.le_trans hqb hb1.size))
 refine (Zb q q w1.heap.size 1 (.slice ta j.table.length tcap) (.slice ra r.length rcap) j ⟨[],[]⟩ [zt j.plan] _ rfl (by decide) (by simp [zt]) ?_ ((HP0.out.later hb1).later hb2) hh2).mono ?_
 ·exact Nat.le_trans hqb (Nat.le_trans hb1.size hb2.size)
 rintro e w3 ⟨rfl,hp3,hk3⟩
 have hp3':PressAt w3 q q (.slice ta j.table.length tcap) (.slice ra r.length rcap) j ⟨zt j.plan,[]⟩:=by simpa using hp3
 have Hp3:=hid hp3'
 have hB3:Below q wa w3:=hB2.trans hk3.below
 have HJ3:=hid (hk3.row (jd hb2 (jd hb1 HjB.out)) (by decide))
 clear hp3 hp3' hk3 hh2 hb2 hb1 hB1 hB2 HjB HP0
 go_wp2_with fail
 have Hch:=AF q ta tcap ra rcap r j ⟨zt j.plan,[]⟩ wa w3 HLA.out (by rw [Hqq.out];exact hB3) (by simp [zt]) rfl (by rw [Hqq.out];exact Hp3.out)
 rw [Hqq.out] at Hch
 refine Hch.mono ?_
 clear Hch
 rintro e w4 ⟨pv,rfl,ho4,hp4,hk4⟩
 have Ho4:Hid (w4.ownsRow w3.heap.size 3 1 pv (zE j r).length (xG (zE j r))):=ho4
 have Hp4:Hid (PressAt w4 q q (.slice ta j.table.length tcap) (.slice ra r.length rcap) j (xw j r)):=hp4
 have hB4:Below q wa w4:=hB3.trans hk4.below
 have HJ4:=hid (hk4.row HJ3.out (by decide))
 clear ho4 hp4 hk4 HJ3 hB3 Hp3
 obtain ⟨pa,pc,rfl,_⟩:=Gk Ho4.out
 go_wp2_with fail
 have hj4:=HJ4.out
 have HRW:=hid (fun w'=>YJ q ta tcap (.slice ra r.length rcap) j (xw j r) q w' (by omega))
 have HEN:Hid (∀ w',Below q wa w'→w'.ownsRow w3.heap.size 3 1 (.slice pa (zE j r).length pc) (zE j r).length (xG (zE j r))→PressAt w' q q (.slice ta j.table.length tcap) (.slice ra r.length rcap) j (xw j r) →
   Calls Tryz.prog 65 #[.pointer (some ⟨q,0,none⟩),.agg #[.int .i64 (qa j.table:Int),.int .i64 j.plan.group,.int .i64 j.plan.page,.int .i64 j.plan.foot,.bool j.plan.told,.slice ta j.table.length tcap,.slice pa (zE j r).length pc]] w'
    fun e w2=>e=.returned (.tuple #[])∧PressAt w2 q q (.slice ta j.table.length tcap) (.slice ra r.length rcap) j ⟨zu j r,Jf j r⟩∧KeptT pressT q w' w2):=by
  intro w' hw' ho' hp'
  have:=Su q ta tcap ra rcap r j (xw j r) (.slice pa (zE j r).length pc) (zE j r) w3.heap.size wa w' HLA.out (by rw [Hqq.out];exact hw') hbo (Nat.le_trans hbg (by decide)) hpl Hpb.out hft ho' (by rw [Hqq.out];exact hp')
  rw [Hqq.out] at this
  exact this
 clear hbo hbg
 generalize xw j r=bst at *
 generalize zE j r=plj at *
 go_region_held3 (fun w'=>w'.cell? ⟨w.heap.size,0,none⟩=some (.slice ta j.table.length tcap)∧w'.cell? ⟨w.heap.size,1,none⟩=some (.int .i64 j.plan.group)∧w'.cell? ⟨w.heap.size,2,none⟩=some (.int .i64 j.plan.page)∧w'.cell? ⟨w.heap.size,3,none⟩=some (.int .i64 j.plan.foot)∧w'.cell? ⟨w.heap.size,4,none⟩=some (.bool j.plan.told))
  (first|exact Cm Y6|exact Cm hj4)
  (first
   | (go_at_call 66;refine (HRW.out _ (HLA.out.table.later (by rw [Hqq.out];exact hB4.drew)) (Hp4.out.later (QV _))).mono ?_;rintro e w5 ⟨rfl,rfl⟩)
   | (go_at_call 65;refine (HEN.out _ hB4.drew (ju Ho4.out (QV _)) (Hp4.out.later (QV _))).mono ?_;rintro e w6 ⟨rfl,hp6,hk6⟩;have Y6:=(KeptT.undrew hk6).row hj4 (by decide)))
 have hk6':=KeptT.undrew hk6
 have HB6:Hid (Below w.heap.size w w6):=by
  have h6:Below q wa w6:=hB4.trans hk6'.below
  exact HbA.out.trans (h6.mono (by rw [← Hqq.out];exact HbA.out.size))
 have hBq6:w.heap.size≤q:=by rw [← Hqq.out];exact HbA.out.size
 obtain ⟨ov,lv,hrow6,_,hout6,hlog6⟩:=hp6
 simp only at hout6 hlog6
 obtain ⟨oa,oc,rfl⟩:=jK hout6
 obtain ⟨la,lc,rfl⟩:=jK hlog6
 have HL6:=hid (Vy hlog6 hBq6)
 have c8:=(qL hrow6).1.2.2.2.2.2.2.1
 have c9:=(qL hrow6).1.2.2.2.2.2.2.2
 have hcv:∀ n,Sem.run Tryz.prog (convert 64 9 (.slice oa (zu j r).length oc)) (w6.drewN n)=.ok (strB (zu j r)) (w6.drewN n):=fun n=>Ke (W:=w6.drewN n) (base:=q) (n:=(zu j r).length) hout6
 clear Y6 hj4 hrow6 hout6 hlog6 hk6 hk6' hB4 HFB HLB
 generalize hFF:zu j r=FF at *
 have HFF:=hid hFF
 generalize hLG:Jf j r=LG at *
 have HLG:=hid hLG
 clear hFF hLG
 go_wp2_with fail
 go_quiet (fail)
 go_wp2
 go_ret2
 rw [HFF.out,HLG.out]
 exact ⟨_,rfl,HL6.out,below_drewN HB6.out nq⟩
theorem Rd (ta:Option Addr) (tcap:Nat) (ra:Option Addr) (rcap:Nat) (r:List KeyB) (j:JobB) (w:World) (hj:LiesJ w ta tcap j) (hr:LiesK w ra r) (hrm:r.length≤maxLen) :
  Calls Tryz.prog 22 #[jobV (.slice ta j.table.length tcap) j,.slice ra r.length rcap] w
   fun e w'=>Below w.heap.size w w'∧((zD j r≠0∧e=.returned (.tuple #[strB [],.slice none 0 0,.int .i64 (zD j r)])) ∨
    (zD j r=0∧∃ lv,e=.returned (.tuple #[strB (zu j r),lv,.int .i64 0])∧w'.ownsRow w.heap.size 54 4 lv (Jf j r).length (qF (Jf j r)))):=by
 have Hj:=hid hj
 have Hr:=hid hr
 have HGE:=hid (fun h=>Gy (j:=j) (r:=r) h (YW hj.table))
 clear hj hr
 go_enter Tryz.func22,Tryz.ntmps22
 go_wp2_with fail
 obtain ⟨hb0,hs1,_,_⟩:=jJ w #[.slice ta j.table.length tcap,.int .i64 j.plan.group,.int .i64 j.plan.page,.int .i64 j.plan.foot,.bool j.plan.told,strB j.pre,.int .i64 j.draw] 27
 have Hx0:=hid (Rb w (.slice ta j.table.length tcap) j 27)
 have Hj0:=hid (Hj.out.later hb0)
 have Hr0:=hid (Hr.out.later hb0)
 have Hb0:=hid hb0
 clear hb0
 generalize w.alloc _=w0 at *
 refine (Is ta tcap j ra rcap r w0 Hj0.out Hr0.out hrm).mono ?_
 rintro e w1 ⟨rfl,hb1⟩
 have hB1:=Hb0.out.trans (hb1.mono Hb0.out.size)
 by_cases hz:zD j r=0
 ·have HG:=hid (HGE.out hz)
  have Hz:=hid hz
  rw [hz]
  clear hz
  obtain ⟨x0,x1,x2,x3,x4,x5,x6⟩:=Hx0.out.later hs1 hb1
  go_wp2_with fail
  refine (DG ta tcap ra rcap r j w1 ⟨Hj0.out.table.later hb1,Hr0.out.later hb1,hrm,HG.out,Hj0.out.cap_⟩).mono ?_
  rintro e w2 ⟨lv,rfl,ho2,hb2⟩
  have HB2:=hid (hB1.trans (hb2.mono hB1.size))
  have HO2:=hid (Vy ho2 hB1.size)
  clear x0 x1 x2 x3 x4 x5 x6 ho2 hb2 hb1 hB1
  generalize hFF:zu j r=FF at *
  have HFF:=hid hFF
  generalize hLG:Jf j r=LG at *
  have HLG:=hid hLG
  clear hFF hLG
  go_wp2
  refine bodyPost_ret (v:=.tuple #[strB FF,lv,.int .i64 0]) (by simp [results,Tryz.results22,go_sem]) rfl ?_
  rw [HFF.out,HLG.out]
  exact ⟨HB2.out,.inr ⟨Hz.out,lv,rfl,HO2.out⟩⟩
 ·have hz2:(zD j r != 0)=true:=by simpa using hz
  have Hz:=hid hz
  clear hz
  generalize hER:zD j r=er at *
  have HER:=hid hER
  clear hER
  go_wp2
  refine bodyPost_ret (v:=.tuple #[strB [],.slice none 0 0,.int .i64 er]) (by simp [results,Tryz.results22,go_sem]) rfl ?_
  rw [HER.out]
  exact ⟨hB1,.inl ⟨Hz.out,rfl⟩⟩
end
section
theorem Gq {j:JobB} {r:List KeyB} (h:GoodJ j r):zD j r=0:=by
 unfold zD
 rw [if_neg (by rw [h.table.ok];simp),if_neg,if_neg (by rw [h.ring];simp),if_neg (by rw [h.has];simp)]
 rw [h.plan]
 have:=h.pre
 have:=h.draw
 simp
 omega
theorem Le (j:JobB) (r:List KeyB):(zu j r).isEmpty=false:=by
 unfold zu
 simp [List.isEmpty_eq_false_iff]
theorem Zx (ta:Option Addr) (tcap:Nat) (ra:Option Addr) (rcap:Nat) (r:List KeyB) (j:JobB) (w:World) (hj:LiesJ w ta tcap j) (hr:LiesK w ra r) (hrm:r.length≤maxLen) (hg:GoodJ j r) :
  Calls Tryz.prog 10 #[jobV (.slice ta j.table.length tcap) j,.slice ra r.length rcap] w
   fun e w'=>∃ lv,e=.returned (.tuple #[strB (zu j r),lv,.bool true])∧w'.ownsRow w.heap.size 54 4 lv (Jf j r).length (qF (Jf j r))∧Below w.heap.size w w':=by
 have Hj:=hid hj
 have Hr:=hid hr
 have hz:=Gq hg
 have Hz:=hid hz
 have hfe:=Le j r
 clear hj hr hz
 go_enter Tryz.func10,Tryz.ntmps10
 go_wp2_with fail
 obtain ⟨hb0,hs0,_,_⟩:=jJ w #[.slice ta j.table.length tcap,.int .i64 j.plan.group,.int .i64 j.plan.page,.int .i64 j.plan.foot,.bool j.plan.told,strB j.pre,.int .i64 j.draw] 27
 have Hj0:=hid (Hj.out.later hb0)
 have Hr0:=hid (Hr.out.later hb0)
 have Hb0:=hid hb0
 clear hb0
 generalize w.alloc (.cells #[.slice ta j.table.length tcap,.int .i64 j.plan.group,.int .i64 j.plan.page,.int .i64 j.plan.foot,.bool j.plan.told,strB j.pre,.int .i64 j.draw] 27)=w0 at *
 refine (Rd ta tcap ra rcap r j w0 Hj0.out Hr0.out hrm).mono ?_
 rintro e w1 ⟨hb1,hcase⟩
 obtain ⟨lv,rfl,hl⟩:∃ lv,e=.returned (.tuple #[strB (zu j r),lv,.int .i64 0])∧w1.ownsRow w0.heap.size 54 4 lv (Jf j r).length (qF (Jf j r)):=by
  rcases hcase with ⟨hne,_⟩|⟨_,h⟩
  ·exact absurd Hz.out hne
  ·exact h
 have HL:=hid (Vy hl Hb0.out.size)
 have HB:=hid (Hb0.out.trans (hb1.mono Hb0.out.size))
 clear hcase hl hb1
 generalize hF:zu j r=F at *
 have HF:=hid hF
 clear hF
 go_wp2
 refine bodyPost_ret (v:=.tuple #[strB F,lv,.bool true]) (by simp [results,Tryz.results10,go_sem]) rfl ?_
 exact ⟨lv,by rw [HF.out],HL.out,HB.out⟩
end
section
theorem Si (n:Nat) (hn:0 < n) (hn2:n≤1000) (w:World) :
  Calls Tryz.prog 114 #[.slice none 0 0,.int .i64 (n:Int)] w fun e w'=>∃ v,e=.returned v∧w'.ownsRow w.heap.size 75 6 v 0 []∧Below w.heap.size w w':=by
 obtain ⟨i0,hi,hz0,hz1,hz2⟩:=info_parts Tryz.infoPiece
 have hneg:¬ ((n:Int) < 0):=by omega
 have hpos:(0:Int) < (n:Int):=by omega
 have HR:=hid (Lib.run_append_nil_zeros (P:=Tryz.prog) w 155 3 155 75 i0 _ .i64 .i64 Tryz.underlying155 Tryz.underlying3 hi hz0 n hn (by omega) (by omega) (by rw [hz2];omega))
 have hge:=grownCap_ge w n 0 75
 have hcm:=grownCap_le_maxLen w n 0 75 (by unfold maxLen;omega)
 generalize hgc:grownCap w n 0 75=gc at *
 clear hgc
 go_enter Tryz.func114,Tryz.ntmps114
 go_wp2_with (at_builtin;refine Lib.wpList_append_run _ rfl _ _ _ _ rfl _ _ rfl rfl _ _ HR.out ?_)
 go_ret
 refine ⟨_,rfl,World.ownsRow.drew (World.ownsRow_made w _ gc (Nat.le_refl _) hcm ?_),?_⟩
 ·simp only [Array.size_append,size_zeroCells]
  have:(#[.string ⟨#[]⟩,.int .i64 0,.int .i64 0,.int .i64 0,.string ⟨#[]⟩,.string ⟨#[]⟩]:Array Value).size=6:=rfl
  rw [this]
  omega
 ·have h:=(Below.refl w.heap.size w).alloc (Nat.le_refl _) (.cells (Builtin.zeroCells #[.string ⟨#[]⟩,.int .i64 0,.int .i64 0,.int .i64 0,.string ⟨#[]⟩,.string ⟨#[]⟩] n++Builtin.zeroCells #[.string ⟨#[]⟩,.int .i64 0,.int .i64 0,.int .i64 0,.string ⟨#[]⟩,.string ⟨#[]⟩] (gc - n)) 75)
  exact ⟨h.os,h.tape,h.output,h.size,h.block⟩
def Mr (n1:Nat):Nat→Nat
 | 0=>0
 | 1=>n1
 | _=>n1+1
theorem Mv (b g1 n1 c1 g2:Nat) (xs1 xs2:List Value) (w:World) (hn:0 < n1) (hn2:n1≤60) (hb:b < w.heap.size) (hc0:w.cell? ⟨b,0,none⟩=some (.slice (some ⟨g1,0,none⟩) n1 c1)) (hc1:w.cell? ⟨b,1,none⟩=some (.slice (some ⟨g2,0,none⟩) 1 1))
  (hl1:xs1.length=n1*6) (hl2:xs2.length=6) (hg1:g1 < w.heap.size) (hg2:g2 < w.heap.size) (h1:∀ j u,xs1[j]?=some u→w.cell? ⟨g1,j,none⟩=some u) (h2:∀ j u,xs2[j]?=some u→w.cell? ⟨g2,j,none⟩=some u) (ho1:∀ u ∈ xs1,u.oneCell'=true) (ho2:∀ u ∈ xs2,u.oneCell'=true) :
  Calls Tryz.prog 86 #[.slice (some ⟨b,0,none⟩) 2 2] w fun e w'=>∃ v,e=.returned v∧w'.ownsRow w.heap.size 75 6 v (n1+1) (xs1++xs2)∧Below w.heap.size w w':=by
 obtain ⟨i0,hi,hz0,hz1,hz2⟩:=info_parts Tryz.infoPiece
 have HN1:Hid (∀ w',Below w.heap.size w w'→∀ j u,xs1[j]?=some u→w'.cell? ((⟨g1,0,none⟩:Addr).add j)=some u):=fun w' hb' j u hu=>by
  rw [show (⟨g1,0,none⟩:Addr).add j=⟨g1,j,none⟩ by unfold Addr.add;split<;>simp_all]
  exact (hb'.cell (p:=⟨g1,j,none⟩) hg1).trans (h1 j u hu)
 have HN2:Hid (∀ w',Below w.heap.size w w'→∀ j u,xs2[j]?=some u→w'.cell? ((⟨g2,0,none⟩:Addr).add j)=some u):=fun w' hb' j u hu=>by
  rw [show (⟨g2,0,none⟩:Addr).add j=⟨g2,j,none⟩ by unfold Addr.add;split<;>simp_all]
  exact (hb'.cell (p:=⟨g2,j,none⟩) hg2).trans (h2 j u hu)
 have HL1:=hid hl1
 have HL2:Hid (xs2.length=1*6):=hl2
 have HO1:=hid ho1
 have HO2:=hid ho2
 have HC0:=hid hc0
 have HC1:=hid hc1
 clear hl1 hl2 h1 h2 ho1 ho2 hc0 hc1
 go_enter Tryz.func86,Tryz.ntmps86
 go_wp2
 go_loopw [3,11] (fun s i wr=>∃ k:Nat,k≤2∧i=.int .i64 (k:Int)∧s=.int .i64 ((Mr n1 k:Nat):Int)∧w=wr) (fun _ i _=>2 - (intOf i).toNat)
 case atStart=>exact ⟨0,by omega,rfl,rfl,rfl⟩
 case round =>
  obtain ⟨k,hk,rfl,rfl,rfl⟩:=hrel
  rcases (show k=0∨k=1∨k=2 by omega) with rfl|rfl|rfl
  ·have c0:=HC0.out
   have e0:((Mr n1 0:Nat):Int)=0:=rfl
   rw [e0]
   go_wp2
   go_roundw
   case rel=>exact ⟨1,by omega,by go_num,rfl,by simp⟩
   case measure=>simp [intOf]
  ·have c0:=HC1.out
   have e0:((Mr n1 1:Nat):Int)=(n1:Int):=rfl
   rw [e0]
   have hw:IntKind.i64.wrap ((n1:Int)+1)=(n1:Int)+1:=by rw [IntKind.wrap_i64];omega
   have hw2:¬ ((n1:Int)+1 < 0):=by omega
   go_wp2
   go_roundw
   case rel=>exact ⟨2,by omega,by go_num,rfl,by simp⟩
   case measure=>simp [intOf]
  ·have e0:((Mr n1 2:Nat):Int)=((n1+1:Nat):Int):=rfl
   rw [e0]
   clear e0
   have HG:=hid (Si (n1+1) (by omega) (by omega) w)
   generalize hm:n1+1=m at *
   have Hm:=hid hm
   have hmb:m≤61:=by omega
   clear hm
   go_wp2_with fail
   refine HG.out.mono ?_
   clear HG
   rintro e w1 ⟨v,rfl,hown,hb1⟩
   obtain ⟨va,vc,rfl⟩:=jK hown
   have HOwn:=hid hown
   have HB1:=hid hb1
   clear hown hb1
   go_wp2
   go_loopw [6,27] (fun s i wq=>∃ k:Nat,k≤2∧i=.int .i64 (k:Int)∧wq.ownsRow w.heap.size 75 6 s (Mr n1 k) (if k=0 then [] else if k=1 then xs1 else xs1++xs2)∧Below w.heap.size w wq) (fun _ i _=>2 - (intOf i).toNat)
   case atStart=>exact ⟨0,by omega,rfl,HOwn.out,HB1.out⟩
   case round =>
    obtain ⟨k,hk,rfl,hown,hB⟩:=hrel
    have HOwn2:=hid hown
    have HB:=hid hB
    clear hown HOwn
    have hbs:=HB.out.size
    rcases (show k=0∨k=1∨k=2 by omega) with rfl|rfl|rfl
    ·have c0:=(hB.cell (p:=⟨b,0,none⟩) hb).trans HC0.out
     have HO:Hid (wr.ownsRow w.heap.size 75 6 u6 0 []):=HOwn2.out
     clear hB HOwn2
     go_wp2_with (at_builtin;refine wpList_append_own _ rfl (.tmp 31) (.tmp 32) 155 rfl w.heap.size 75 i0 _ 6 72 Tryz.underlying155 hi hz0 hz1 hz2 rfl (by decide) _ 0 [] rfl HO.out ⟨g1,0,none⟩ n1 c1 xs1 rfl HL1.out (HN1.out _ HB.out) HO1.out (by unfold maxLen;omega) (by omega) hbs ?_)
     intro v2 w5 hown2 hgr2 _
     have HB5:=hid (HB.out.grown hgr2 hbs (fun k hk=>(HO.out.lt k hk).1))
     have HO5:Hid (w5.ownsRow w.heap.size 75 6 v2 (Mr n1 1) xs1):=hown2
     clear hown2 hgr2 HO c0
     go_wp2
     go_roundw
     case rel=>exact ⟨1,by omega,by go_num,HO5.out,HB5.out⟩
     case measure=>simp [intOf]
    ·have c0:=(hB.cell (p:=⟨b,1,none⟩) hb).trans HC1.out
     have HO:Hid (wr.ownsRow w.heap.size 75 6 u6 n1 xs1):=HOwn2.out
     clear hB HOwn2
     go_wp2_with (at_builtin;refine wpList_append_own _ rfl (.tmp 31) (.tmp 32) 155 rfl w.heap.size 75 i0 _ 6 72 Tryz.underlying155 hi hz0 hz1 hz2 rfl (by decide) _ n1 xs1 rfl HO.out ⟨g2,0,none⟩ 1 1 xs2 rfl HL2.out (HN2.out _ HB.out) HO2.out (by unfold maxLen;omega) (by omega) hbs ?_)
     intro v2 w5 hown2 hgr2 _
     have HB5:=hid (HB.out.grown hgr2 hbs (fun k hk=>(HO.out.lt k hk).1))
     have HO5:Hid (w5.ownsRow w.heap.size 75 6 v2 (Mr n1 2) (xs1++xs2)):=hown2
     clear hown2 hgr2 HO c0
     go_wp2
     go_roundw
     case rel=>exact ⟨2,by omega,by go_num,HO5.out,HB5.out⟩
     case measure=>simp [intOf]
    ·have HO:Hid (wr.ownsRow w.heap.size 75 6 u6 (n1+1) (xs1++xs2)):=HOwn2.out
     clear hB HOwn2
     obtain ⟨ua,uc,rfl⟩:=jK HO.out
     go_wp2
     go_ret
     exact ⟨_,rfl,by rw [← Hm.out];exact HO.out,HB.out⟩
end
end Go.Proofs.YthhpbhpfagoapabGreat
