import Derived.Test.YthhpbhpfagoapaaGreatJAA
import Derived.Test.YthhpbhpfagoapaaGreatJAV
import Derived.Defers
import Derived.Recover
import Derived.Laws.Pointers
import Derived.Laws.Tables
import Derived.Laws.Rows
import Derived.Test.YthhpbhpfagoapaaGreatOpen
import Derived.Test.YthhpbhpfagoapaaGreatJAP
namespace Go.Proofs.YthhpbhpfagoapaaGreat
set_option linter.unusedVariables false
set_option linter.unusedSimpArgs false
set_option maxRecDepth 100000
set_option maxHeartbeats 16000000
open Go.RowKit
section
theorem ring_lies {w:World} {base n:Nat} {v:Value} {c without:Int} (h:w.ownsRow base 63 2 v n (keysC (ringB c without 5))) (hok:∀ x ∈ ringRaw c without,okKey x) :
  ∃ a cap,v=.slice a (ringRaw c without).length cap∧LiesK w a (ringRaw c without):=by
 have hk:keysC (ringB c without 5)=(ringRaw c without).flatMap fun x=>[.int .i64 x.number,strB x.secret]:=by
  simp [keysC,ringRaw,List.flatMap_map]
 rw [hk] at h
 have hlen:=flat_length (fun x:KeyB=>[Value.int .i64 x.number,strB x.secret]) 2 (fun _=>rfl) (ringRaw c without)
 have hn:n=(ringRaw c without).length:=by have:=h.1;rw [hlen] at this;omega
 subst hn
 rcases h.2 with ⟨rfl,h0⟩|⟨g,cap,cur,rfl,_,hg,_⟩
 ·refine ⟨none,0,by rw [h0],hok,fun hne=>absurd (List.eq_nil_of_length_eq_zero h0) hne⟩
 ·refine ⟨_,_,rfl,hok,fun _=>⟨g,0,rfl,(h.lt g rfl).2,fun j hj=>?_⟩⟩
  have f1:=flat_at (fun x:KeyB=>[Value.int .i64 x.number,strB x.secret]) 2 (fun _=>rfl) (ringRaw c without) j 0 hj (by decide)
  have f2:=flat_at (fun x:KeyB=>[Value.int .i64 x.number,strB x.secret]) 2 (fun _=>rfl) (ringRaw c without) j 1 hj (by decide)
  simp only [Nat.zero_add]
  exact ⟨by rw [h.cellAt (j*2) (by omega)];exact f1,by rw [h.cellAt (j*2+1) (by omega)];exact f2⟩
theorem rows_liesJ {w:World} {base:Nat} {tv:Value} {P:List (ColB × Value)} {j:JobB} {r:List KeyB} (h:RowsT w base tv P) (hP:P.map Prod.fst=j.table) (hg:GoodJ j r) :
  ∃ a cap,tv=.slice a j.table.length cap∧LiesJ w a cap j:=by
 have hlen:P.length=j.table.length:=by rw [← hP,List.length_map]
 obtain ⟨a,cap,rfl,hc,hl⟩:=h.lies (by
  intro p hp
  obtain ⟨k,hk,rfl⟩:=List.mem_iff_getElem.1 hp
  have hk':k < j.table.length:=by omega
  have e:(P[k]).1=j.table[k]:=by
   have:(P.map Prod.fst)[k]'(by rw [List.length_map];exact hk)=j.table[k]:=by simp only [hP]
   simpa using this
  obtain ⟨n1,n2,n3,n4⟩:=hg.table.head k hk'
  obtain ⟨c1,c2,c3⟩:=hg.table.cells k hk'
  rw [e]
  refine ⟨⟨by have:=(name_len n1).2;unfold maxLen;omega,⟨by omega,by omega⟩,⟨by omega,by omega⟩⟩,fun x hx=>?_,by omega⟩
  obtain ⟨s1,s2,s3⟩:=c3 x hx
  exact ⟨s1,s2,by unfold maxLen;omega⟩)
 rw [hP] at hl
 have hp:=hg.sizes
 have hpl:=hg.plan
 simp only [planOkB,Bool.and_eq_true,decide_eq_true_eq] at hpl
 have h6:=hg.table.few.2
 have hd:=hg.draw
 have hpr:=hg.pre
 exact ⟨a,cap,by rw [hlen],hl,by unfold maxLen;omega,by omega,by unfold maxLen;omega,⟨by omega,by omega⟩,⟨by omega,by omega⟩,⟨by omega,by omega⟩,⟨by omega,by omega⟩⟩
end
section
abbrev jobC (tv:Value) (j:JobB):Array Value:=#[tv,.int .i64 j.plan.group,.int .i64 j.plan.page,.int .i64 j.plan.foot,.bool j.plan.told,strB j.pre,.int .i64 j.draw]
theorem rows_liesJ' {w:World} {base n tc:Nat} {ta:Option Addr} {P:List (ColB × Value)} {j:JobB} {r:List KeyB} (h:RowsT w base (.slice ta n tc) P) (hP:P.map Prod.fst=j.table) (hg:GoodJ j r):LiesJ w ta tc j:=by
 obtain ⟨a,cap,e,hl⟩:=rows_liesJ h hP hg
 simp only [Value.slice.injEq] at e
 obtain ⟨rfl,_,rfl⟩:=e
 exact hl
abbrev Box7 (p:Nat) (tv:Value) (j:JobB) (w:World):Prop :=
 w.cell? ⟨p,0,none⟩=some tv∧w.cell? ⟨p,1,none⟩=some (.int .i64 j.plan.group)∧w.cell? ⟨p,2,none⟩=some (.int .i64 j.plan.page)∧w.cell? ⟨p,3,none⟩=some (.int .i64 j.plan.foot)∧w.cell? ⟨p,4,none⟩=some (.bool j.plan.told)∧w.cell? ⟨p,5,none⟩=some (strB j.pre)∧w.cell? ⟨p,6,none⟩=some (.int .i64 j.draw)
theorem box7_later {p:Nat} {tv:Value} {j:JobB} {w w':World} (h:Box7 p tv j w) (hp:p < w.heap.size) (hb:Below w.heap.size w w'):Box7 p tv j w':=by
 obtain ⟨h0,h1,h2,h3,h4,h5,h6⟩:=h
 exact ⟨(hb.cell (p:=⟨p,_,none⟩) hp).trans h0,(hb.cell (p:=⟨p,_,none⟩) hp).trans h1,(hb.cell (p:=⟨p,_,none⟩) hp).trans h2,(hb.cell (p:=⟨p,_,none⟩) hp).trans h3,(hb.cell (p:=⟨p,_,none⟩) hp).trans h4,(hb.cell (p:=⟨p,_,none⟩) hp).trans h5,(hb.cell (p:=⟨p,_,none⟩) hp).trans h6⟩
theorem ringB_any (c:Int) (w:World) (p:Nat) (tv:Value) (j:JobB) (h0:-9223372036854775808≤c) (h1:c≤9223372036854775807) (hp:p < w.heap.size) (hb:Box7 p tv j w) :
  Calls Tryz.prog 29 #[.int .i64 c,.int .i64 0] w.drew fun e w'=>∃ ra rcap,e=.returned (.slice ra (ringRaw c 0).length rcap)∧LiesK w' ra (ringRaw c 0)∧Below w.heap.size w w'∧Box7 p tv j w':=by
 refine (ring_any c 0 w.drew h0 h1).mono ?_
 rintro e w5 ⟨rv,rfl,hrv,hb5⟩
 have hb5':Below w.heap.size w w5:=below_undrew hb5
 obtain ⟨ra,rcap,rfl,hrl⟩:=ring_lies hrv (ring_ok c).2.2.2
 exact ⟨ra,rcap,rfl,hrl,hb5',box7_later hb hp hb5'⟩
end
section
abbrev formC (f:FormF):Array Value:=#[.int .i64 (f.foot:Int),.bool f.told,strB f.footer,strB [if f.told=true then 83 else 70],.int .i64 0,.int .i64 0,.int .i64 0,strB f.nonce,strB f.body,strB (aheadF f)]
abbrev form0:Array Value:=#[.int .i64 0,.bool false,Value.string { data:=#[] },Value.string { data:=#[] },.int .i64 0,.int .i64 0,.int .i64 0,Value.string { data:=#[] },Value.string { data:=#[] },Value.string { data:=#[] }]
theorem formC_one (f:FormF):(formC f).all (·.oneCell')=true:=by simp [Value.oneCell']
theorem setRow_grownF (w:World) (g:Nat) (cs:Array Value):w.grownBy (w.setRow g cs) (some g) :=
 ⟨rfl,rfl,rfl,by simp,fun k _ hk=>setRow_other w g k cs (fun e=>hk (by rw [e]))⟩
theorem formWork (file:List UInt8) (B:Nat) (w:World) (hs:file.length≤maxLen) (hB:w.cell? ⟨B,0,none⟩=some (strB file)) :
  Calls Tryz.prog 97 #[.pointer (some ⟨B,0,none⟩)] w (FormX file w):=by
 have Hs:=hid hs
 have hBa:=cell_alloc_keep (.cells form0 115) hB
 clear hs
 obtain ⟨hb0,hl0,_,ho0⟩:=boxedW w form0 115
 go_enter Tryz.func97,Tryz.ntmps97
 go_wp2_with fail
 clear hBa hB
 refine (readForm_any file (w.alloc (.cells form0 115)) Hs.out).mono ?_
 generalize w.alloc _=W0 at *
 have HB0:=hid hb0
 have Ho0:=hid ho0
 clear hb0 ho0
 rintro e w1 ⟨hb1,⟨rfl,hn⟩|⟨f,hf,rfl⟩⟩
 ·have HN:=hid hn
  have HB1:=hid (HB0.out.trans (hb1.mono HB0.out.size))
  clear hb1 hn
  go_wp2
  exact ⟨rfl,HB1.out,.inl ⟨rfl,HN.out⟩⟩
 ·have HF:=hid hf
  have HB1:=hid (HB0.out.trans (hb1.mono HB0.out.size))
  have Ho1:=hid (heap_later hb1 Ho0.out)
  clear hb1 hf
  go_wp2_with (refine wpList_store_row rfl 115 (.tmp 1) (.tmp 3) rfl w.heap.size (formC f) rfl rfl 115 form0 Ho1.out (by kernel_rfl) rfl (formC_one f) ?_)
  have HoF:=hid (setRow_heap w1 w.heap.size _ (formC f) 115 (0,0) Ho1.out)
  have HBF:=hid (HB1.out.trans (below_own (setRow_grownF w1 w.heap.size (formC f)) (Nat.le_refl _) HB1.out.size))
  generalize w1.setRow _ _=WF at *
  exact bodyPost_ret (v:=formV f) (results_cell_row (P:=Tryz.prog) (p:=1) (ty:=115) rfl _ _ w.heap.size 115 (formC f) (0,0) _ rfl HoF.out Tryz.underlying115 rfl (by kernel_rfl)) rfl ⟨HBF.out,.inr ⟨f,HF.out,rfl⟩⟩
theorem catchF_panicking (p:Addr) (b:Bool) (u:TypeId) (pv:Value) (older:List PanicEntry) (w:World) (hc:w.cell? p=some (.bool b)) (hz:w.frozen? p=false) :
  CallsD Tryz.prog 154 #[.pointer (some p)] (.panicking ({ v:=.iface u pv,recovered:=false } :: older)) w fun e u' w' =>
   e=.returned (.tuple #[])∧u'=.panicking ({ v:=.iface u pv,recovered:=true } :: older)∧w'=w.setCell p (.bool false):=by
 refine callsD_of_wpS Tryz.func154 rfl fun c₀ cs hu=>?_
 apply wpS_region
 simp [wpOpsS,go_sem,recoverD,hu,Tryz.ntmps154,Exit.thenS,hc,hz,bodyPostS,results,Tryz.results154]
theorem catchF_idle (p:Addr) (b:Bool) (w:World) (hc:w.cell? p=some (.bool b)) (hz:w.frozen? p=false) :
  CallsD Tryz.prog 154 #[.pointer (some p)] .returning w fun e u' w'=>e=.returned (.tuple #[])∧u'=.returning∧w'=w.setCell p (.bool true):=by
 refine callsD_of_wpS Tryz.func154 rfl fun c₀ cs hu=>?_
 apply wpS_region
 simp [wpOpsS,go_sem,recoverD,hu,Tryz.ntmps154,Exit.thenS,hc,hz,bodyPostS,results,Tryz.results154]
 cases c₀
 simp_all
theorem formTry (file:List UInt8) (B:Nat) (w:World) (hs:file.length≤maxLen) (hB:w.cell? ⟨B,0,none⟩=some (strB file)) :
  Calls Tryz.prog 96 #[.func (.func 97) #[] #[.pointer (some ⟨B,0,none⟩)]] w fun e w'=>Below w.heap.size w w' ∧
   ((formAt file=none∧e=.returned (.tuple #[.agg form0,.bool false]))∨∃ f,formAt file=some f∧e=.returned (.tuple #[formV f,.bool true])):=by
 have hmf:∀ (fn:Fn) (first cap:Array Value) (w:World),(Instr.makeFunc fn first cap).run Tryz.prog w=.ok (.func fn first cap) w:=fun _ _ _ _=>rfl
 have Hs:=hid hs
 have hBa:=cell_alloc_keep (.cells #[.bool false] 4) (cell_alloc_keep (.cells form0 115) hB)
 obtain ⟨hb0,hl0,ho0,hk0⟩:=boxes2 w form0 115 #[.bool false] 4
 have HBa:=hid hBa
 clear hs hB hBa
 go_enter_defers Tryz.func96,Tryz.ntmps96
 go_wp2_with fail
 refine (formWork file B ((w.alloc (.cells form0 115)).alloc (.cells #[.bool false] 4)) Hs.out HBa.out).mono ?_
 clear HBa
 generalize (w.alloc _).alloc _=W0 at *
 have HB0:=hid hb0
 have Ho0:=hid ho0
 have Hk0:=hid hk0
 clear hb0 ho0 hk0
 rintro e w2 ⟨hb2,ho⟩
 have HB2:=hid (HB0.out.trans (hb2.mono HB0.out.size))
 have Ho2:=hid (heap_later hb2 Ho0.out)
 have Hk2:=hid (heap_later hb2 Hk0.out)
 have hc2:w2.cell? ⟨w.heap.size+1,0,none⟩=some (.bool false):=by rw [cell_of_heap Hk2.out];rfl
 have hz2:w2.frozen? ⟨w.heap.size+1,0,none⟩=false:=frozen_of_row w2 _ _ _ _ Hk2.out
 rcases ho with ⟨rfl,hn⟩|⟨f,hf,rfl⟩
 ·have Hn:=hid hn
  clear hn hb2
  go_wp2
  refine leaves_cons (f:=154) (args:=#[.pointer (some ⟨w.heap.size+1,0,none⟩)]) (by simp) (by simp [go_sem]) ?_
  refine (catchF_panicking ⟨w.heap.size+1,0,none⟩ false 9 _ [] _ hc2 hz2).mono ?_
  rintro e u' w'' ⟨rfl,rfl,rfl⟩
  have hW:=World.cell?_setCell_same w2 ⟨w.heap.size+1,0,none⟩ (.bool false) hc2
  have HBW:=hid (HB2.out.setCell (p:=⟨w.heap.size+1,0,none⟩) (by simp) (.bool false))
  have HoW:=hid (grown_keeps (set_grown w2 (w.heap.size+1) 0 (.bool false)) Ho2.out (by omega))
  generalize w2.setCell _ _=W at *
  obtain ⟨⟨o0,o1,o2,o3,o4,o5,o6,o7,o8,o9⟩,_⟩:=cells10 HoW.out
  simp [Leaves,settle,results,Tryz.results96,go_sem,hW,o0,o1,o2,o3,o4,o5,o6,o7,o8,o9]
  exact ⟨HBW.out,Hn.out⟩
 ·have Hf:=hid hf
  have hg3:=setRow_grownF w2 w.heap.size (formC f)
  have Hk3:=hid (grown_keeps hg3 Hk2.out (by omega))
  have Ho3:=hid (setRow_heap w2 w.heap.size _ (formC f) 115 (0,0) Ho2.out)
  have HB3:=hid (HB2.out.trans (below_own hg3 (Nat.le_refl _) HB2.out.size))
  have hc3:(w2.setRow w.heap.size (formC f)).cell? ⟨w.heap.size+1,0,none⟩=some (.bool false):=by rw [cell_of_heap Hk3.out];rfl
  have hz3:(w2.setRow w.heap.size (formC f)).frozen? ⟨w.heap.size+1,0,none⟩=false:=frozen_of_row _ _ _ _ _ Hk3.out
  clear hf hb2 hg3 hc2 hz2
  go_wp2_with (refine wpList_store_row rfl 115 (.tmp 2) (.tmp 6) rfl w.heap.size (formC f) rfl rfl 115 form0 Ho2.out (by kernel_rfl) rfl (formC_one f) ?_)
  generalize w2.setRow _ _=w3 at *
  refine leaves_cons (f:=154) (args:=#[.pointer (some ⟨w.heap.size+1,0,none⟩)]) (by simp) (by simp [go_sem]) ?_
  refine (catchF_idle ⟨w.heap.size+1,0,none⟩ true _ ?_ ?_).mono ?_
  ·exact World.cell?_setCell_same w3 ⟨w.heap.size+1,0,none⟩ (.bool true) hc3
  ·simp [hz3]
  rintro e u' w'' ⟨rfl,rfl,rfl⟩
  have hW1:=World.cell?_setCell_same w3 ⟨w.heap.size+1,0,none⟩ (.bool true) hc3
  have hW:=World.cell?_setCell_same _ ⟨w.heap.size+1,0,none⟩ (.bool true) hW1
  have HBW:=hid ((HB3.out.setCell (p:=⟨w.heap.size+1,0,none⟩) (by simp) (.bool true)).setCell (p:=⟨w.heap.size+1,0,none⟩) (by simp) (.bool true))
  have HoW:=hid (grown_keeps (set_grown (w3.setCell ⟨w.heap.size+1,0,none⟩ (.bool true)) (w.heap.size+1) 0 (.bool true)) (grown_keeps (set_grown w3 (w.heap.size+1) 0 (.bool true)) Ho3.out (by omega)) (by omega))
  clear hW1 hc3 hz3
  generalize (w3.setCell _ _).setCell _ _=W at *
  obtain ⟨⟨o0,o1,o2,o3,o4,o5,o6,o7,o8,o9⟩,_⟩:=cells10 HoW.out
  simp [Leaves,settle,results,Tryz.results96,go_sem,hW,o0,o1,o2,o3,o4,o5,o6,o7,o8,o9]
  exact ⟨HBW.out,f,Hf.out,rfl,rfl,rfl,rfl,rfl,rfl,rfl⟩
end
section
theorem plain_long (sec non ext body:ByteArray) (w:World) (h:5002 < body.size) (hm:body.size≤maxLen) :
  Calls Tryz.prog 180 #[.string sec,.string non,.string ext,.string body] w fun e w' =>
   e=.returned (.tuple #[strB [],.bool false])∧w'=w:=by
 unfold maxLen at hm
 have i1:¬ (body.size:Int) < 2:=by omega
 have i2:(5002:Int) < (body.size:Int):=by omega
 go_enter Tryz.func180,Tryz.ntmps180
 go_wp2
 go_ret2
 exact ⟨rfl,rfl⟩
def openV:Option (List UInt8)→Value
 | some p=>.tuple #[strB p,.bool true]
 | none=>.tuple #[strB [],.bool false]
theorem openF_yes {sec non ext body:List UInt8} (h2:2≤body.length) (h5:body.length≤5002) (h:opensB sec non ext body=true):openF sec non ext body=some (stirB sec non (cipB body)):=by
 have:=body_opens sec non ext body
 rw [h,beq_iff_eq] at this
 unfold openF
 rw [if_pos ⟨h5,h2,this⟩]
 rfl
theorem openF_no {sec non ext body:List UInt8} (h:opensB sec non ext body=false):openF sec non ext body=none:=by
 have:=body_opens sec non ext body
 rw [h] at this
 unfold openF
 rw [if_neg]
 rintro ⟨_,_,h3⟩
 have h4:(bodyB sec non ext (stirB sec non (cipB body)) == body)=true:=by rw [beq_iff_eq];exact h3
 rw [h4] at this
 cases this
theorem plainP_any (sec non ext body:List UInt8) (w:World) (h1:sec.length≤1000) (h2:non.length≤1000) (h3:ext.length≤5000) (hm:body.length≤maxLen) :
  Calls Tryz.prog 180 #[strB sec,strB non,strB ext,strB body] w fun e w'=>e=.returned (openV (openF sec non ext body))∧Below w.heap.size w w':=by
 have hz:=strB_size body
 have hd:∀ l:List UInt8,(⟨l.toArray⟩:ByteArray).data.toList=l:=fun l=>by simp
 by_cases hlo:body.length < 2
 ·refine (plain_short ⟨sec.toArray⟩ ⟨non.toArray⟩ ⟨ext.toArray⟩ ⟨body.toArray⟩ w (by rw [hz];exact hlo)).mono ?_
  rintro e w' ⟨rfl,rfl⟩
  have:openF sec non ext body=none:=by unfold openF;rw [if_neg (by omega)]
  exact ⟨by rw [this];rfl,Below.refl _ _⟩
 by_cases hhi:5002 < body.length
 ·refine (plain_long ⟨sec.toArray⟩ ⟨non.toArray⟩ ⟨ext.toArray⟩ ⟨body.toArray⟩ w (by rw [hz];exact hhi) (by rw [hz];exact hm)).mono ?_
  rintro e w' ⟨rfl,rfl⟩
  have:openF sec non ext body=none:=by unfold openF;rw [if_neg (by omega)]
  exact ⟨by rw [this];rfl,Below.refl _ _⟩
 cases ho:opensB sec non ext body with
 | true =>
  refine (plain_yes ⟨sec.toArray⟩ ⟨non.toArray⟩ ⟨ext.toArray⟩ ⟨body.toArray⟩ w (by rw [hz];omega) (by rw [hz];omega) (by rw [strB_size];exact h1) (by rw [strB_size];exact h2) (by rw [strB_size];exact h3) (by simp only [hd];exact ho)).mono ?_
  rintro e w' ⟨rfl,hb⟩
  refine ⟨?_,hb⟩
  rw [openF_yes (by omega) (by omega) ho]
  simp only [hd,openV]
 | false =>
  refine (plain_no ⟨sec.toArray⟩ ⟨non.toArray⟩ ⟨ext.toArray⟩ ⟨body.toArray⟩ w (by rw [hz];omega) (by rw [hz];omega) (by rw [strB_size];exact h1) (by rw [strB_size];exact h2) (by rw [strB_size];exact h3) (by simp only [hd];exact ho)).mono ?_
  rintro e w' ⟨rfl,hb⟩
  refine ⟨?_,hb⟩
  rw [openF_no ho]
  rfl
end
end Go.Proofs.YthhpbhpfagoapaaGreat
