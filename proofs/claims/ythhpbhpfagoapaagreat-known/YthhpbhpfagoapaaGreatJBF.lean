import Derived.Test.YthhpbhpfagoapaaGreatJAX
import Derived.Test.YthhpbhpfagoapaaGreatJAW
import Derived.Test.YthhpbhpfagoapaaGreatXRForm2
import Derived.Defers
import Derived.Recover
import Derived.Laws.Pointers
import Derived.Laws.Tables
import Derived.Laws.Rows
namespace Go.Proofs.YthhpbhpfagoapaaGreat
set_option linter.unusedVariables false
set_option linter.unusedSimpArgs false
set_option maxRecDepth 100000
set_option maxHeartbeats 16000000
open Go.RowKit
section
theorem GH {w:World} {b b' e s n:Nat} {v:Value} {xs:List Value} (h:w.ownsRow b e s v n xs) (hb:b'≤b):w.ownsRow b' e s v n xs:=by
 obtain ⟨h1,h2⟩:=h
 refine ⟨h1,?_⟩
 rcases h2 with h2|⟨g,cap,cur,hv,hg,rest⟩
 ·exact .inl h2
 ·exact .inr ⟨g,cap,cur,hv,Nat.le_trans hb hg,rest⟩
theorem Co {w:World} {a:Option Addr} {t:List ColB} (h:LiesT w a t):∀ c ∈ t,∀ x ∈ c.cells,-9223372036854775808≤x.int∧x.int≤9223372036854775807:=by
 intro c hc x hx
 obtain ⟨k,hk,rfl⟩:=List.mem_iff_getElem.1 hc
 obtain ⟨b,off,_,_,hcell⟩:=h.at_ (List.ne_nil_of_length_pos (by omega))
 obtain ⟨_,_,_,v,_,ca,cap,_,_,hl,_⟩:=hcell k hk
 obtain ⟨h0,h1,_⟩:=hl.ok x hx
 exact ⟨h0,h1⟩
theorem Gd {j:JobB} {r:List KeyB} (h:JA j r=0) (hf:∀ c ∈ j.table,∀ x ∈ c.cells,-9223372036854775808≤x.int∧x.int≤9223372036854775807):GoodJ j r:=by
 unfold JA at h
 split at h
 ·omega
 ·rename_i h1
  split at h
  ·omega
  ·rename_i h2
   split at h
   ·omega
   ·rename_i h3
    split at h
    ·omega
    ·rename_i h4
     simp only [Bool.not_eq_false,Bool.and_eq_true,decide_eq_true_eq] at h1 h2 h3 h4
     exact ⟨⟨h1,hf⟩,h2.1,h2.2.1,h2.2.2,h3,by simpa using h4⟩
theorem DE {w:World} {b:Nat} {v:Value} {j:JobB} (h:w.heap[b]?=some (.cells #[v,.int .i64 j.plan.group,.int .i64 j.plan.page,.int .i64 j.plan.foot,.bool j.plan.told,strB j.pre,.int .i64 j.draw] 26 (0,0))) :
  w.cell? ⟨b,0,none⟩=some v∧w.cell? ⟨b,1,none⟩=some (.int .i64 j.plan.group)∧w.cell? ⟨b,2,none⟩=some (.int .i64 j.plan.page)∧w.cell? ⟨b,3,none⟩=some (.int .i64 j.plan.foot)∧w.cell? ⟨b,4,none⟩=some (.bool j.plan.told) :=
 ⟨by rw [ja h];rfl,by rw [ja h];rfl,by rw [ja h];rfl,by rw [ja h];rfl,by rw [ja h];rfl⟩
theorem De (ta:Option Addr) (tcap:Nat) (ra:Option Addr) (rcap:Nat) (r:List KeyB) (j:JobB) (w:World) (hL:Laid w ta tcap ra rcap j r) :
  Calls Tryz.prog 76 #[jobV (.slice ta j.table.length tcap) j,.slice ra r.length rcap] w
   fun e w'=>∃ lv,e=.returned (.tuple #[strB (xC j r),lv])∧w'.ownsRow w.heap.size 40 4 lv (Va j r).length (QV (Va j r))∧Below w.heap.size w w':=by
 have HL:=hid hL
 obtain ⟨hpl,hpb,hft⟩:=hL.good.foot
 have Hpb:=hid hpb
 obtain ⟨hbo,hbg⟩:=hL.good.body (qS j).length
 rw [List.take_length] at hbo hbg
 have hf0:=hL.good.sizes.2.2
 have h1:=hL.good.table.few.1
 have HFB:Hid (xC j r=(Jf j r (xX j r) (xq j r)).out++(qv (((Jf j r (xX j r) (xq j r)).out.length - (xq j r).out.length:Nat):Int)++[67,70])):=rfl
 have HLB:Hid (Va j r=(Jf j r (xX j r) (xq j r)).log):=rfl
 clear hL hpb
 go_enter Tryz.func76,Tryz.ntmps76
 go_wp2_with fail
 obtain ⟨hbA,_,_,hhA⟩:=qa w #[.slice ta j.table.length tcap,.int .i64 j.plan.group,.int .i64 j.plan.page,.int .i64 j.plan.foot,.bool j.plan.told,strB j.pre,.int .i64 j.draw] 26
 have hsz:(w.alloc (.cells #[.slice ta j.table.length tcap,.int .i64 j.plan.group,.int .i64 j.plan.page,.int .i64 j.plan.foot,.bool j.plan.told,strB j.pre,.int .i64 j.draw] 26)).heap.size=w.heap.size+1:=by simp
 generalize w.alloc (.cells #[.slice ta j.table.length tcap,.int .i64 j.plan.group,.int .i64 j.plan.page,.int .i64 j.plan.foot,.bool j.plan.told,strB j.pre,.int .i64 j.draw] 26)=wa at *
 obtain ⟨hbB,_,_,hhB⟩:=qa wa (pressC (.slice ta j.table.length tcap) (.slice ra r.length rcap) (.slice none 0 0) (.slice none 0 0) j) 231
 have HLA:Hid (Laid wa ta tcap ra rcap j r):=⟨HL.out.table.later hbA,HL.out.ring.later hbA,HL.out.len,HL.out.good,HL.out.caps⟩
 have HP0:Hid (PressAt (wa.alloc (.cells (pressC (.slice ta j.table.length tcap) (.slice ra r.length rcap) (.slice none 0 0) (.slice none 0 0) j) 231)) wa.heap.size wa.heap.size (.slice ta j.table.length tcap) (.slice ra r.length rcap) j ⟨[],[]⟩) :=
  ⟨_,_,hhB,Nat.le_refl _,World.ownsRow_nil _ _ _ _,World.ownsRow_nil _ _ _ _⟩
 have hjB:=jb hbB hhA
 rw [← hsz]
 clear hhB hsz
 generalize wa.alloc _=wb at *
 have HbA:=hid hbA
 have HbB:=hid hbB
 have HjB:=hid hjB
 clear hbA hbB hjB hhA
 generalize hqq:wa.heap.size=q at *
 have Hqq:=hid hqq
 have hqb:q≤wb.heap.size:=by have:=HbB.out.size;rw [hqq] at this;exact this
 clear hqq
 refine (Cv j.plan wb hf0.1 hf0.2).mono ?_
 rintro e w1 ⟨rfl,hb1⟩
 have hB1:Below q wa w1:=HbB.out.trans (hb1.mono hqb)
 go_wp2_with fail
 obtain ⟨hb2,_,_,hh2⟩:=qa w1 #[strB (za j.plan)] 9
 have hB2:Below q wa (w1.alloc (.cells #[strB (za j.plan)] 9)):=hB1.trans (hb2.mono (Nat.le_trans hqb hb1.size))
 refine (Xw q q w1.heap.size 1 (.slice ta j.table.length tcap) (.slice ra r.length rcap) j ⟨[],[]⟩ [za j.plan] _ rfl (by decide) (by simp [za]) ?_ ((HP0.out.later hb1).later hb2) hh2).mono ?_
 ·exact Nat.le_trans hqb (Nat.le_trans hb1.size hb2.size)
 rintro e w3 ⟨rfl,hp3,hk3⟩
 have hp3':PressAt w3 q q (.slice ta j.table.length tcap) (.slice ra r.length rcap) j ⟨za j.plan,[]⟩:=by simpa using hp3
 have Hp3:=hid hp3'
 have hB3:Below q wa w3:=hB2.trans hk3.below
 have HJ3:=hid (hk3.row (jb hb2 (jb hb1 HjB.out)) (by decide))
 clear hp3 hp3' hk3 hh2 hb2 hb1 hB1 hB2 HjB HP0
 go_wp2_with fail
 have Hch:=ET q ta tcap ra rcap r j ⟨za j.plan,[]⟩ wa w3 HLA.out (by rw [Hqq.out];exact hB3) (by simp [za]) rfl (by rw [Hqq.out];exact Hp3.out)
 rw [Hqq.out] at Hch
 refine Hch.mono ?_
 clear Hch
 rintro e w4 ⟨pv,rfl,ho4,hp4,hk4⟩
 have Ho4:Hid (w4.ownsRow w3.heap.size 3 1 pv (zq j r).length (xp (zq j r))):=ho4
 have Hp4:Hid (PressAt w4 q q (.slice ta j.table.length tcap) (.slice ra r.length rcap) j (xq j r)):=hp4
 have hB4:Below q wa w4:=hB3.trans hk4.below
 have HJ4:=hid (hk4.row HJ3.out (by decide))
 clear ho4 hp4 hk4 HJ3 hB3 Hp3
 obtain ⟨pa,pc,rfl,_⟩:=Vt Ho4.out
 go_wp2_with fail
 have hj4:=HJ4.out
 have HRW:=hid (fun w'=>RT q ta tcap (.slice ra r.length rcap) j (xq j r) q w' (by omega))
 have HEN:Hid (∀ w',Below q wa w'→w'.ownsRow w3.heap.size 3 1 (.slice pa (zq j r).length pc) (zq j r).length (xp (zq j r))→PressAt w' q q (.slice ta j.table.length tcap) (.slice ra r.length rcap) j (xq j r) →
   Calls Tryz.prog 141 #[.pointer (some ⟨q,0,none⟩),.agg #[.int .i64 (jY j.table:Int),.int .i64 j.plan.group,.int .i64 j.plan.page,.int .i64 j.plan.foot,.bool j.plan.told,.slice ta j.table.length tcap,.slice pa (zq j r).length pc]] w'
    fun e w2=>e=.returned (.tuple #[])∧PressAt w2 q q (.slice ta j.table.length tcap) (.slice ra r.length rcap) j ⟨xC j r,Va j r⟩∧KeptT pressT q w' w2):=by
  intro w' hw' ho' hp'
  have:=Pj q ta tcap ra rcap r j (xq j r) (.slice pa (zq j r).length pc) (zq j r) w3.heap.size wa w' HLA.out (by rw [Hqq.out];exact hw') hbo (Nat.le_trans hbg (by decide)) hpl Hpb.out hft ho' (by rw [Hqq.out];exact hp')
  rw [Hqq.out] at this
  exact this
 clear hbo hbg
 generalize xq j r=bst at *
 generalize zq j r=plj at *
 go_region_held3 (fun w'=>w'.cell? ⟨w.heap.size,0,none⟩=some (.slice ta j.table.length tcap)∧w'.cell? ⟨w.heap.size,1,none⟩=some (.int .i64 j.plan.group)∧w'.cell? ⟨w.heap.size,2,none⟩=some (.int .i64 j.plan.page)∧w'.cell? ⟨w.heap.size,3,none⟩=some (.int .i64 j.plan.foot)∧w'.cell? ⟨w.heap.size,4,none⟩=some (.bool j.plan.told))
  (first|exact DE Y6|exact DE hj4)
  (first
   | (go_at_call 142;refine (HRW.out _ (HLA.out.table.later (by rw [Hqq.out];exact hB4.drew)) (Hp4.out.later (Ql _))).mono ?_;rintro e w5 ⟨rfl,rfl⟩)
   | (go_at_call 141;refine (HEN.out _ hB4.drew (jm Ho4.out (Ql _)) (Hp4.out.later (Ql _))).mono ?_;rintro e w6 ⟨rfl,hp6,hk6⟩;have Y6:=(KeptT.undrew hk6).row hj4 (by decide)))
 have hk6':=KeptT.undrew hk6
 have HB6:Hid (Below w.heap.size w w6):=by
  have h6:Below q wa w6:=hB4.trans hk6'.below
  exact HbA.out.trans (h6.mono (by rw [← Hqq.out];exact HbA.out.size))
 have hBq6:w.heap.size≤q:=by rw [← Hqq.out];exact HbA.out.size
 obtain ⟨ov,lv,hrow6,_,hout6,hlog6⟩:=hp6
 simp only at hout6 hlog6
 obtain ⟨oa,oc,rfl⟩:=jO hout6
 obtain ⟨la,lc,rfl⟩:=jO hlog6
 have HL6:=hid (GH hlog6 hBq6)
 have c8:=(qA hrow6).1.2.2.2.2.2.2.1
 have c9:=(qA hrow6).1.2.2.2.2.2.2.2
 have hcv:∀ n,Sem.run Tryz.prog (convert 149 9 (.slice oa (xC j r).length oc)) (w6.drewN n)=.ok (strB (xC j r)) (w6.drewN n):=fun n=>ZE (W:=w6.drewN n) (base:=q) (n:=(xC j r).length) hout6
 clear Y6 hj4 hrow6 hout6 hlog6 hk6 hk6' hB4 HFB HLB
 generalize hFF:xC j r=FF at *
 have HFF:=hid hFF
 generalize hLG:Va j r=LG at *
 have HLG:=hid hLG
 clear hFF hLG
 go_wp2_with fail
 go_quiet (fail)
 go_wp2
 go_ret2
 rw [HFF.out,HLG.out]
 exact ⟨_,rfl,HL6.out,below_drewN HB6.out nq⟩
theorem NK (ta:Option Addr) (tcap:Nat) (ra:Option Addr) (rcap:Nat) (r:List KeyB) (j:JobB) (w:World) (hj:LiesJ w ta tcap j) (hr:LiesK w ra r) (hrm:r.length≤maxLen) :
  Calls Tryz.prog 33 #[jobV (.slice ta j.table.length tcap) j,.slice ra r.length rcap] w
   fun e w'=>Below w.heap.size w w'∧((JA j r≠0∧e=.returned (.tuple #[strB [],.slice none 0 0,.int .i64 (JA j r)])) ∨
    (JA j r=0∧∃ lv,e=.returned (.tuple #[strB (xC j r),lv,.int .i64 0])∧w'.ownsRow w.heap.size 40 4 lv (Va j r).length (QV (Va j r)))):=by
 have Hj:=hid hj
 have Hr:=hid hr
 have HGE:=hid (fun h=>Gd (j:=j) (r:=r) h (Co hj.table))
 clear hj hr
 go_enter Tryz.func33,Tryz.ntmps33
 go_wp2_with fail
 obtain ⟨hb0,hs1,_,_⟩:=qa w #[.slice ta j.table.length tcap,.int .i64 j.plan.group,.int .i64 j.plan.page,.int .i64 j.plan.foot,.bool j.plan.told,strB j.pre,.int .i64 j.draw] 26
 have Hx0:=hid (NR w (.slice ta j.table.length tcap) j 26)
 have Hj0:=hid (Hj.out.later hb0)
 have Hr0:=hid (Hr.out.later hb0)
 have Hb0:=hid hb0
 clear hb0
 generalize w.alloc _=w0 at *
 refine (YO ta tcap j ra rcap r w0 Hj0.out Hr0.out hrm).mono ?_
 rintro e w1 ⟨rfl,hb1⟩
 have hB1:=Hb0.out.trans (hb1.mono Hb0.out.size)
 by_cases hz:JA j r=0
 ·have HG:=hid (HGE.out hz)
  have Hz:=hid hz
  rw [hz]
  clear hz
  obtain ⟨x0,x1,x2,x3,x4,x5,x6⟩:=Hx0.out.later hs1 hb1
  go_wp2_with fail
  refine (De ta tcap ra rcap r j w1 ⟨Hj0.out.table.later hb1,Hr0.out.later hb1,hrm,HG.out,Hj0.out.cap_⟩).mono ?_
  rintro e w2 ⟨lv,rfl,ho2,hb2⟩
  have HB2:=hid (hB1.trans (hb2.mono hB1.size))
  have HO2:=hid (GH ho2 hB1.size)
  clear x0 x1 x2 x3 x4 x5 x6 ho2 hb2 hb1 hB1
  generalize hFF:xC j r=FF at *
  have HFF:=hid hFF
  generalize hLG:Va j r=LG at *
  have HLG:=hid hLG
  clear hFF hLG
  go_wp2
  refine bodyPost_ret (v:=.tuple #[strB FF,lv,.int .i64 0]) (by simp [results,Tryz.results33,go_sem]) rfl ?_
  rw [HFF.out,HLG.out]
  exact ⟨HB2.out,.inr ⟨Hz.out,lv,rfl,HO2.out⟩⟩
 ·have hz2:(JA j r != 0)=true:=by simpa using hz
  have Hz:=hid hz
  clear hz
  generalize hER:JA j r=er at *
  have HER:=hid hER
  clear hER
  go_wp2
  refine bodyPost_ret (v:=.tuple #[strB [],.slice none 0 0,.int .i64 er]) (by simp [results,Tryz.results33,go_sem]) rfl ?_
  rw [HER.out]
  exact ⟨hB1,.inl ⟨Hz.out,rfl⟩⟩
end
section
abbrev formC (f:FormF):Array Value:=#[.int .i64 (f.foot:Int),.bool f.told,strB f.footer,strB [if f.told=true then 83 else 70],.int .i64 0,.int .i64 0,.int .i64 0,strB f.nonce,strB f.body,strB (qc f)]
abbrev form0:Array Value:=#[.int .i64 0,.bool false,Value.string { data:=#[] },Value.string { data:=#[] },.int .i64 0,.int .i64 0,.int .i64 0,Value.string { data:=#[] },Value.string { data:=#[] },Value.string { data:=#[] }]
theorem KJ (f:FormF):(formC f).all (·.oneCell')=true:=by simp [Value.oneCell']
theorem Ue (w:World) (g:Nat) (cs:Array Value):w.grownBy (w.setRow g cs) (some g) :=
 ⟨rfl,rfl,rfl,by simp,fun k _ hk=>setRow_other w g k cs (fun e=>hk (by rw [e]))⟩
theorem TX (file:List UInt8) (B:Nat) (w:World) (hs:file.length≤maxLen) (hB:w.cell? ⟨B,0,none⟩=some (strB file)) :
  Calls Tryz.prog 97 #[.pointer (some ⟨B,0,none⟩)] w (SO file w):=by
 have Hs:=hid hs
 have hBa:=jc (.cells form0 115) hB
 clear hs
 obtain ⟨hb0,hl0,_,ho0⟩:=qa w form0 115
 go_enter Tryz.func97,Tryz.ntmps97
 go_wp2_with fail
 clear hBa hB
 refine (YD file (w.alloc (.cells form0 115)) Hs.out).mono ?_
 generalize w.alloc _=W0 at *
 have HB0:=hid hb0
 have Ho0:=hid ho0
 clear hb0 ho0
 rintro e w1 ⟨hb1,⟨rfl,hn⟩|⟨f,hf,rfl⟩⟩
 ·have HN:=hid hn
  have HB1:=hid (HB0.out.trans (hb1.mono HB0.out.size))
  clear hb1 hn
  go_wp2
  exact ⟨rfl,HB1.out,.inl ⟨rfl,HN.out⟩⟩
 ·have HF:=hid hf
  have HB1:=hid (HB0.out.trans (hb1.mono HB0.out.size))
  have Ho1:=hid (jb hb1 Ho0.out)
  clear hb1 hf
  go_wp2_with (refine wpList_store_row rfl 115 (.tmp 1) (.tmp 3) rfl w.heap.size (formC f) rfl rfl 115 form0 Ho1.out (by kernel_rfl) rfl (KJ f) ?_)
  have HoF:=hid (setRow_heap w1 w.heap.size _ (formC f) 115 (0,0) Ho1.out)
  have HBF:=hid (HB1.out.trans (jn (Ue w1 w.heap.size (formC f)) (Nat.le_refl _) HB1.out.size))
  generalize w1.setRow _ _=WF at *
  exact bodyPost_ret (v:=formV f) (results_cell_row (P:=Tryz.prog) (p:=1) (ty:=115) rfl _ _ w.heap.size 115 (formC f) (0,0) _ rfl HoF.out Tryz.underlying115 rfl (by kernel_rfl)) rfl ⟨HBF.out,.inr ⟨f,HF.out,rfl⟩⟩
theorem Vy (p:Addr) (b:Bool) (u:TypeId) (pv:Value) (older:List PanicEntry) (w:World) (hc:w.cell? p=some (.bool b)) (hz:w.frozen? p=false) :
  CallsD Tryz.prog 154 #[.pointer (some p)] (.panicking ({ v:=.iface u pv,recovered:=false } :: older)) w fun e u' w' =>
   e=.returned (.tuple #[])∧u'=.panicking ({ v:=.iface u pv,recovered:=true } :: older)∧w'=w.setCell p (.bool false):=by
 refine callsD_of_wpS Tryz.func154 rfl fun c₀ cs hu=>?_
 apply wpS_region
 simp [wpOpsS,go_sem,recoverD,hu,Tryz.ntmps154,Exit.thenS,hc,hz,bodyPostS,results,Tryz.results154]
theorem Ib (p:Addr) (b:Bool) (w:World) (hc:w.cell? p=some (.bool b)) (hz:w.frozen? p=false) :
  CallsD Tryz.prog 154 #[.pointer (some p)] .returning w fun e u' w'=>e=.returned (.tuple #[])∧u'=.returning∧w'=w.setCell p (.bool true):=by
 refine callsD_of_wpS Tryz.func154 rfl fun c₀ cs hu=>?_
 apply wpS_region
 simp [wpOpsS,go_sem,recoverD,hu,Tryz.ntmps154,Exit.thenS,hc,hz,bodyPostS,results,Tryz.results154]
 cases c₀
 simp_all
theorem So (file:List UInt8) (B:Nat) (w:World) (hs:file.length≤maxLen) (hB:w.cell? ⟨B,0,none⟩=some (strB file)) :
  Calls Tryz.prog 96 #[.func (.func 97) #[] #[.pointer (some ⟨B,0,none⟩)]] w fun e w'=>Below w.heap.size w w' ∧
   ((Ja file=none∧e=.returned (.tuple #[.agg form0,.bool false]))∨∃ f,Ja file=some f∧e=.returned (.tuple #[formV f,.bool true])):=by
 have hmf:∀ (fn:Fn) (first cap:Array Value) (w:World),(Instr.makeFunc fn first cap).run Tryz.prog w=.ok (.func fn first cap) w:=fun _ _ _ _=>rfl
 have Hs:=hid hs
 have hBa:=jc (.cells #[.bool false] 4) (jc (.cells form0 115) hB)
 obtain ⟨hb0,hl0,ho0,hk0⟩:=Qs w form0 115 #[.bool false] 4
 have HBa:=hid hBa
 clear hs hB hBa
 go_enter_defers Tryz.func96,Tryz.ntmps96
 go_wp2_with fail
 refine (TX file B ((w.alloc (.cells form0 115)).alloc (.cells #[.bool false] 4)) Hs.out HBa.out).mono ?_
 clear HBa
 generalize (w.alloc _).alloc _=W0 at *
 have HB0:=hid hb0
 have Ho0:=hid ho0
 have Hk0:=hid hk0
 clear hb0 ho0 hk0
 rintro e w2 ⟨hb2,ho⟩
 have HB2:=hid (HB0.out.trans (hb2.mono HB0.out.size))
 have Ho2:=hid (jb hb2 Ho0.out)
 have Hk2:=hid (jb hb2 Hk0.out)
 have hc2:w2.cell? ⟨w.heap.size+1,0,none⟩=some (.bool false):=by rw [ja Hk2.out];rfl
 have hz2:w2.frozen? ⟨w.heap.size+1,0,none⟩=false:=frozen_of_row w2 _ _ _ _ Hk2.out
 rcases ho with ⟨rfl,hn⟩|⟨f,hf,rfl⟩
 ·have Hn:=hid hn
  clear hn hb2
  go_wp2
  refine leaves_cons (f:=154) (args:=#[.pointer (some ⟨w.heap.size+1,0,none⟩)]) (by simp) (by simp [go_sem]) ?_
  refine (Vy ⟨w.heap.size+1,0,none⟩ false 9 _ [] _ hc2 hz2).mono ?_
  rintro e u' w'' ⟨rfl,rfl,rfl⟩
  have hW:=World.cell?_setCell_same w2 ⟨w.heap.size+1,0,none⟩ (.bool false) hc2
  have HBW:=hid (HB2.out.setCell (p:=⟨w.heap.size+1,0,none⟩) (by simp) (.bool false))
  have HoW:=hid (jf (qm w2 (w.heap.size+1) 0 (.bool false)) Ho2.out (by omega))
  generalize w2.setCell _ _=W at *
  obtain ⟨⟨o0,o1,o2,o3,o4,o5,o6,o7,o8,o9⟩,_⟩:=xe HoW.out
  simp [Leaves,settle,results,Tryz.results96,go_sem,hW,o0,o1,o2,o3,o4,o5,o6,o7,o8,o9]
  exact ⟨HBW.out,Hn.out⟩
 ·have Hf:=hid hf
  have hg3:=Ue w2 w.heap.size (formC f)
  have Hk3:=hid (jf hg3 Hk2.out (by omega))
  have Ho3:=hid (setRow_heap w2 w.heap.size _ (formC f) 115 (0,0) Ho2.out)
  have HB3:=hid (HB2.out.trans (jn hg3 (Nat.le_refl _) HB2.out.size))
  have hc3:(w2.setRow w.heap.size (formC f)).cell? ⟨w.heap.size+1,0,none⟩=some (.bool false):=by rw [ja Hk3.out];rfl
  have hz3:(w2.setRow w.heap.size (formC f)).frozen? ⟨w.heap.size+1,0,none⟩=false:=frozen_of_row _ _ _ _ _ Hk3.out
  clear hf hb2 hg3 hc2 hz2
  go_wp2_with (refine wpList_store_row rfl 115 (.tmp 2) (.tmp 6) rfl w.heap.size (formC f) rfl rfl 115 form0 Ho2.out (by kernel_rfl) rfl (KJ f) ?_)
  generalize w2.setRow _ _=w3 at *
  refine leaves_cons (f:=154) (args:=#[.pointer (some ⟨w.heap.size+1,0,none⟩)]) (by simp) (by simp [go_sem]) ?_
  refine (Ib ⟨w.heap.size+1,0,none⟩ true _ ?_ ?_).mono ?_
  ·exact World.cell?_setCell_same w3 ⟨w.heap.size+1,0,none⟩ (.bool true) hc3
  ·simp [hz3]
  rintro e u' w'' ⟨rfl,rfl,rfl⟩
  have hW1:=World.cell?_setCell_same w3 ⟨w.heap.size+1,0,none⟩ (.bool true) hc3
  have hW:=World.cell?_setCell_same _ ⟨w.heap.size+1,0,none⟩ (.bool true) hW1
  have HBW:=hid ((HB3.out.setCell (p:=⟨w.heap.size+1,0,none⟩) (by simp) (.bool true)).setCell (p:=⟨w.heap.size+1,0,none⟩) (by simp) (.bool true))
  have HoW:=hid (jf (qm (w3.setCell ⟨w.heap.size+1,0,none⟩ (.bool true)) (w.heap.size+1) 0 (.bool true)) (jf (qm w3 (w.heap.size+1) 0 (.bool true)) Ho3.out (by omega)) (by omega))
  clear hW1 hc3 hz3
  generalize (w3.setCell _ _).setCell _ _=W at *
  obtain ⟨⟨o0,o1,o2,o3,o4,o5,o6,o7,o8,o9⟩,_⟩:=xe HoW.out
  simp [Leaves,settle,results,Tryz.results96,go_sem,hW,o0,o1,o2,o3,o4,o5,o6,o7,o8,o9]
  exact ⟨HBW.out,f,Hf.out,rfl,rfl,rfl,rfl,rfl,rfl,rfl⟩
end
end Go.Proofs.YthhpbhpfagoapaaGreat
