import Derived.Test.YthhpbhpfagoapabGreatJBJ
import Derived.Test.YthhpbhpfagoapabGreatJAX
import Derived.Test.YthhpbhpfagoapabGreatJAZ
import Derived.Test.YthhpbhpfagoapabGreatJAG
namespace Go.Proofs.YthhpbhpfagoapabGreat
set_option linter.unusedVariables false
set_option linter.unusedSimpArgs false
set_option maxRecDepth 100000
set_option maxHeartbeats 16000000
open Go.RowKit
section
abbrev sheet0:Array Value:=#[.int .i64 0,.bool false,Value.string { data:=#[] },Value.string { data:=#[] },.int .i64 0,.int .i64 0,.int .i64 0,Value.string { data:=#[] },Value.string { data:=#[] },Value.string { data:=#[] },.int .i64 0,.int .i64 0,.int .i64 0,.int .i64 0,.bool false,.slice none 0 0,.slice none 0 0,.slice none 0 0]
theorem GG {P:Program} {fn:Func} {p q:Tmp} {ty tz:TypeId} (h:fn.results=#[.cell p ty,.cell q tz]) (tmps:Array Value) (w:World) (g k:Nat) (cs:Array Value) (x:Value)
  (hp:tmps.getD p undef=.pointer (some ⟨g,0,none⟩)) (hq:tmps.getD q undef=.pointer (some ⟨k,0,none⟩)) (hl:(loadVar ty ⟨g,0,none⟩).run P w=.ok (.agg cs) w) (hl2:(loadVar tz ⟨k,0,none⟩).run P w=.ok x w) :
  (results fn tmps).run P w=.ok (.tuple #[.agg cs,x]) w:=by
 have hp':tmps[p]?.getD undef=.pointer (some ⟨g,0,none⟩):=by simpa using hp
 have hq':tmps[q]?.getD undef=.pointer (some ⟨k,0,none⟩):=by simpa using hq
 simp [results,h,hp',hq',asAddr,hl,hl2]
theorem Sc (f:FormF) (footer:List UInt8) (B1 B2:Nat) (w:World) (hs:footer.length≤maxLen) (hl:(qg f).length≤65000) (h1:w.heap[B1]?=some (.cells (formC f) 77 (0,0))) (h2:w.cell? ⟨B2,0,none⟩=some (strB footer)) :
  Calls Tryz.prog 107 #[.pointer (some ⟨B1,0,none⟩),.pointer (some ⟨B2,0,none⟩)] w (Sy f footer w):=by
 have Hs:=hid hs
 have Hl:=hid hl
 have h2a:=je (.cells sheet0 82) h2
 have h1a:=jo (.cells sheet0 82) h1
 clear hs hl
 obtain ⟨hb0,hl0,_,ho0⟩:=jK w sheet0 82
 go_enter Tryz.func107,Tryz.ntmps107
 go_wp2_with (refine wpList_load_row rfl 77 (.tmp 0) rfl B1 rfl 77 (formC f) (0,0) _ h1a Tryz.underlying77 rfl (by kernel_rfl) ?_)
 clear h1a h2a h1 h2
 refine (TZ f footer (w.alloc (.cells sheet0 82)) Hs.out Hl.out).mono ?_
 generalize w.alloc _=W0 at *
 have HB0:=hid hb0
 have Ho0:=hid ho0
 clear hb0 ho0
 rintro e w1 ⟨hb1,⟨rfl,hn⟩|⟨S,v,cv,pv,Kb,V,Qp,Qm,Pv,hS,hok,rfl,hin⟩⟩
 ·have HN:=hid hn
  have HB1:=hid (HB0.out.trans (hb1.mono HB0.out.size))
  clear hb1 hn
  go_wp2
  exact ⟨rfl,HB1.out,.inl ⟨rfl,HN.out⟩⟩
 ·have HS:=hid (And.intro hS hok)
  have HB1:=hid (HB0.out.trans (hb1.mono HB0.out.size))
  have Ho1:=hid (jd hb1 Ho0.out)
  obtain ⟨hv,hsz,hone⟩:=hin.one
  subst hv
  have HIN:=hid hin
  clear hb1 hS hok hin
  generalize hCC:qR S f cv pv Kb=CC at *
  have HCC:=hid hCC
  clear hCC
  have hinf:(Tryz.prog.info? 82).map (·.size)=some CC.size:=by rw [hsz];kernel_rfl
  have hsz0:sheet0.size=CC.size:=by rw [hsz];rfl
  have HSZ:=hid hsz
  clear hsz
  go_wp2_with (refine wpList_store_row rfl 82 (.tmp 2) (.tmp 5) rfl w.heap.size CC rfl rfl 82 sheet0 Ho1.out hinf hsz0 hone ?_)
  have HoF:=hid (setRow_heap w1 w.heap.size _ CC 82 (0,0) Ho1.out)
  have HBF:=hid (HB1.out.trans (jq (jy w1 w.heap.size CC) (Nat.le_refl _) HB1.out.size))
  have HIF:=hid ((HIN.out.grown (jy w1 w.heap.size CC) Ho1.out (by decide) (by decide) (by decide) (by decide)).lower HB0.out.size)
  generalize w1.setRow _ _=WF at *
  exact bodyPost_ret (v:=.agg CC) (results_cell_row (P:=Tryz.prog) (p:=2) (ty:=82) rfl _ _ w.heap.size 82 CC (0,0) _ rfl HoF.out Tryz.underlying82 rfl hinf) rfl ⟨HBF.out,.inr ⟨S,.agg CC,cv,pv,Kb,V,Qp,Qm,Pv,HS.out.1,HS.out.2,rfl,HIF.out⟩⟩
theorem Gq (p:Addr) (b:Bool) (u:TypeId) (pv:Value) (older:List PanicEntry) (w:World) (hc:w.cell? p=some (.bool b)) (hz:w.frozen? p=false) :
  CallsD Tryz.prog 125 #[.pointer (some p)] (.panicking ({ v:=.iface u pv,recovered:=false } :: older)) w fun e u' w' =>
   e=.returned (.tuple #[])∧u'=.panicking ({ v:=.iface u pv,recovered:=true } :: older)∧w'=w.setCell p (.bool false):=by
 refine callsD_of_wpS Tryz.func125 rfl fun c₀ cs hu=>?_
 apply wpS_region
 simp [wpOpsS,go_sem,recoverD,hu,Tryz.ntmps125,Exit.thenS,hc,hz,bodyPostS,results,Tryz.results125]
theorem AG (p:Addr) (b:Bool) (w:World) (hc:w.cell? p=some (.bool b)) (hz:w.frozen? p=false) :
  CallsD Tryz.prog 125 #[.pointer (some p)] .returning w fun e u' w'=>e=.returned (.tuple #[])∧u'=.returning∧w'=w.setCell p (.bool true):=by
 refine callsD_of_wpS Tryz.func125 rfl fun c₀ cs hu=>?_
 apply wpS_region
 simp [wpOpsS,go_sem,recoverD,hu,Tryz.ntmps125,Exit.thenS,hc,hz,bodyPostS,results,Tryz.results125]
 cases c₀
 simp_all
def GB (f:FormF) (footer:List UInt8) (w:World) (e:Ending) (w':World):Prop :=
 Below w.heap.size w w'∧((zh f.foot f.parts footer=none∧e=.returned (.tuple #[.agg sheet0,.bool false])) ∨
  ∃ S cv pv Kb V Qp Qm Pv,zh f.foot f.parts footer=some S∧SheetOk f.foot f.parts footer S∧e=.returned (.tuple #[.agg (qR S f cv pv Kb),.bool true])∧SheetIn S f w.heap.size w' (.agg (qR S f cv pv Kb)) cv pv Kb V Qp Qm Pv)
theorem SY (f:FormF) (footer:List UInt8) (B1 B2:Nat) (w:World) (hs:footer.length≤maxLen) (hl:(qg f).length≤65000) (h1:w.heap[B1]?=some (.cells (formC f) 77 (0,0))) (h2:w.cell? ⟨B2,0,none⟩=some (strB footer)) :
  Calls Tryz.prog 106 #[.func (.func 107) #[] #[.pointer (some ⟨B1,0,none⟩),.pointer (some ⟨B2,0,none⟩)]] w (GB f footer w):=by
 have hmf:∀ (fn:Fn) (first cap:Array Value) (w:World),(Instr.makeFunc fn first cap).run Tryz.prog w=.ok (.func fn first cap) w:=fun _ _ _ _=>rfl
 have Hs:=hid hs
 have Hl:=hid hl
 have H1a:=hid (jo (.cells #[.bool false] 4) (jo (.cells sheet0 82) h1))
 have H2a:=hid (je (.cells #[.bool false] 4) (je (.cells sheet0 82) h2))
 obtain ⟨hb0,hl0,ho0,hk0⟩:=JY w sheet0 82 #[.bool false] 4
 clear hs hl h1 h2
 go_enter_defers Tryz.func106,Tryz.ntmps106
 go_wp2_with fail
 refine (Sc f footer B1 B2 ((w.alloc (.cells sheet0 82)).alloc (.cells #[.bool false] 4)) Hs.out Hl.out H1a.out H2a.out).mono ?_
 clear H1a H2a
 generalize (w.alloc _).alloc _=W0 at *
 have HB0:=hid hb0
 have Ho0:=hid ho0
 have Hk0:=hid hk0
 clear hb0 ho0 hk0
 rintro e w2 ⟨hb2,ho⟩
 have HB2:=hid (HB0.out.trans (hb2.mono HB0.out.size))
 have Ho2:=hid (jd hb2 Ho0.out)
 have Hk2:=hid (jd hb2 Hk0.out)
 have hc2:w2.cell? ⟨w.heap.size+1,0,none⟩=some (.bool false):=by rw [jb Hk2.out];rfl
 have hz2:w2.frozen? ⟨w.heap.size+1,0,none⟩=false:=frozen_of_row w2 _ _ _ _ Hk2.out
 rcases ho with ⟨rfl,hn⟩|⟨S,v,cv,pv,Kb,V,Qp,Qm,Pv,hS,hok,rfl,hin⟩
 ·have Hn:=hid hn
  clear hn hb2
  go_wp2
  refine leaves_cons (f:=125) (args:=#[.pointer (some ⟨w.heap.size+1,0,none⟩)]) (by simp) (by simp [go_sem]) ?_
  refine (Gq ⟨w.heap.size+1,0,none⟩ false 9 _ [] _ hc2 hz2).mono ?_
  rintro e u' w'' ⟨rfl,rfl,rfl⟩
  have hW:=World.cell?_setCell_same w2 ⟨w.heap.size+1,0,none⟩ (.bool false) hc2
  have HBW:=hid (HB2.out.setCell (p:=⟨w.heap.size+1,0,none⟩) (by simp) (.bool false))
  have HoW:=hid (jk (qv w2 (w.heap.size+1) 0 (.bool false)) Ho2.out (by omega))
  generalize w2.setCell _ _=W at *
  have hload:=run_loadVar_row (P:=Tryz.prog) W w.heap.size 82 82 sheet0 (0,0) _ HoW.out Tryz.underlying82 rfl (by kernel_rfl)
  have hload2:(loadVar 4 ⟨w.heap.size+1,0,none⟩).run Tryz.prog W=.ok (.bool false) W:=by simp [go_sem,hW]
  have HFIN:Hid (GB f footer w (.returned (.tuple #[.agg sheet0,.bool false])) W):=⟨HBW.out,.inl ⟨Hn.out,rfl⟩⟩
  exact ⟨_,GG (p:=2) (q:=3) rfl _ _ _ _ _ _ rfl rfl hload hload2,HFIN.out⟩
 ·obtain ⟨hv,hsz,hone⟩:=hin.one
  subst hv
  have HFS:=hid (And.intro hS hok)
  have HIN:=hid hin
  clear hS hok hin
  generalize hCC:qR S f cv pv Kb=CC at *
  have HCC:=hid hCC
  clear hCC
  have hinf:(Tryz.prog.info? 82).map (·.size)=some CC.size:=by rw [hsz];kernel_rfl
  have hsz0:sheet0.size=CC.size:=by rw [hsz];rfl
  clear hsz
  have hg3:=jy w2 w.heap.size CC
  have Hk3:=hid (jk hg3 Hk2.out (by omega))
  have Ho3:=hid (setRow_heap w2 w.heap.size _ CC 82 (0,0) Ho2.out)
  have HB3:=hid (HB2.out.trans (jq hg3 (Nat.le_refl _) HB2.out.size))
  have HI3:=hid ((HIN.out.grown hg3 Ho2.out (by decide) (by decide) (by decide) (by decide)).lower HB0.out.size)
  have hc3:(w2.setRow w.heap.size CC).cell? ⟨w.heap.size+1,0,none⟩=some (.bool false):=by rw [jb Hk3.out];rfl
  have hz3:(w2.setRow w.heap.size CC).frozen? ⟨w.heap.size+1,0,none⟩=false:=frozen_of_row _ _ _ _ _ Hk3.out
  clear hb2 hg3 hc2 hz2
  go_wp2_with (refine wpList_store_row rfl 82 (.tmp 2) (.tmp 6) rfl w.heap.size CC rfl rfl 82 sheet0 Ho2.out hinf hsz0 hone ?_)
  generalize w2.setRow _ _=w3 at *
  refine leaves_cons (f:=125) (args:=#[.pointer (some ⟨w.heap.size+1,0,none⟩)]) (by simp) (by simp [go_sem]) ?_
  refine (AG ⟨w.heap.size+1,0,none⟩ true _ ?_ ?_).mono ?_
  ·exact World.cell?_setCell_same w3 ⟨w.heap.size+1,0,none⟩ (.bool true) hc3
  ·simp [hz3]
  rintro e u' w'' ⟨rfl,rfl,rfl⟩
  have hW1:=World.cell?_setCell_same w3 ⟨w.heap.size+1,0,none⟩ (.bool true) hc3
  have hW:=World.cell?_setCell_same _ ⟨w.heap.size+1,0,none⟩ (.bool true) hW1
  have HBW:=hid ((HB3.out.setCell (p:=⟨w.heap.size+1,0,none⟩) (by simp) (.bool true)).setCell (p:=⟨w.heap.size+1,0,none⟩) (by simp) (.bool true))
  have ga:=qv w3 (w.heap.size+1) 0 (.bool true)
  have gb:=qv (w3.setCell ⟨w.heap.size+1,0,none⟩ (.bool true)) (w.heap.size+1) 0 (.bool true)
  have hka:(w3.setCell ⟨w.heap.size+1,0,none⟩ (.bool true)).heap[w.heap.size+1]?=some (.cells #[.bool true] 4 (0,0)):=by
   rw [heap_setCell_same w3 (w.heap.size+1) 0 _ 4 (.bool true) Hk3.out];rfl
  have HoW:=hid (jk gb (jk ga Ho3.out (by omega)) (by omega))
  have HIW:=hid ((HI3.out.grown ga Hk3.out (by decide) (by decide) (by decide) (by decide)).grown gb hka (by decide) (by decide) (by decide) (by decide))
  clear hW1 hc3 hz3 ga gb hka
  generalize (w3.setCell _ _).setCell _ _=W at *
  have hload:=run_loadVar_row (P:=Tryz.prog) W w.heap.size 82 82 CC (0,0) _ HoW.out Tryz.underlying82 rfl hinf
  have hload2:(loadVar 4 ⟨w.heap.size+1,0,none⟩).run Tryz.prog W=.ok (.bool true) W:=by simp [go_sem,hW]
  rw [← HCC.out] at hload
  have HFIN:Hid (GB f footer w (.returned (.tuple #[.agg (qR S f cv pv Kb),.bool true])) W):=⟨HBW.out,.inr ⟨S,cv,pv,Kb,V,Qp,Qm,Pv,HFS.out.1,HFS.out.2,rfl,by rw [HCC.out];exact HIW.out⟩⟩
  exact ⟨_,GG (p:=2) (q:=3) rfl _ _ _ _ _ _ rfl rfl hload hload2,HFIN.out⟩
end
section
theorem LB (w:World) (C1:Array Value) (t1:TypeId) (C2:Array Value) (t2:TypeId) (C3:Array Value) (t3:TypeId):Below w.heap.size w (((w.alloc (.cells C1 t1)).alloc (.cells C2 t2)).alloc (.cells C3 t3))∧w.heap.size+1+1 < (((w.alloc (.cells C1 t1)).alloc (.cells C2 t2)).alloc (.cells C3 t3)).heap.size ∧
  (((w.alloc (.cells C1 t1)).alloc (.cells C2 t2)).alloc (.cells C3 t3)).heap[w.heap.size]?=some (.cells C1 t1 (0,0))∧(((w.alloc (.cells C1 t1)).alloc (.cells C2 t2)).alloc (.cells C3 t3)).heap[w.heap.size+1]?=some (.cells C2 t2 (0,0))∧(((w.alloc (.cells C1 t1)).alloc (.cells C2 t2)).alloc (.cells C3 t3)).heap[w.heap.size+1+1]?=some (.cells C3 t3 (0,0)):=by
 obtain ⟨hb,hl,h1,h2⟩:=JY w C1 t1 C2 t2
 have e:((w.alloc (.cells C1 t1)).alloc (.cells C2 t2)).heap.size=w.heap.size+2:=by simp
 refine ⟨hb.alloc hb.size _,by simp,jo _ h1,jo _ h2,?_⟩
 have:=heap_alloc_new ((w.alloc (.cells C1 t1)).alloc (.cells C2 t2)) (.cells C3 t3)
 rw [e] at this
 exact this
theorem qY {P:Program} {fn:Func} {p q:Tmp} {ty:TypeId} (h:fn.results=#[.cell p ty,.tmp q]) (tmps:Array Value) (w:World) (g:Nat) (cs:Array Value) (x:Value)
  (hp:tmps.getD p undef=.pointer (some ⟨g,0,none⟩)) (hq:tmps.getD q undef=x) (hl:(loadVar ty ⟨g,0,none⟩).run P w=.ok (.agg cs) w) :
  (results fn tmps).run P w=.ok (.tuple #[.agg cs,x]) w:=by
 have hp':tmps[p]?.getD undef=.pointer (some ⟨g,0,none⟩):=by simpa using hp
 have hq':tmps[q]?.getD undef=x:=by simpa using hq
 simp [results,h,hp',hq',asAddr,hl]
def FK (f:FormF) (footer:List UInt8) (w:World) (e:Ending) (w':World):Prop :=
 Below w.heap.size w w'∧((zh f.foot f.parts footer=none∧e=.returned (.tuple #[.agg sheet0,.int .i64 9])) ∨
  ∃ S cv pv Kb V Qp Qm Pv,zh f.foot f.parts footer=some S∧SheetOk f.foot f.parts footer S∧e=.returned (.tuple #[.agg (qR S f cv pv Kb),.int .i64 0])∧SheetIn S f w.heap.size w' (.agg (qR S f cv pv Kb)) cv pv Kb V Qp Qm Pv)
theorem RS (f:FormF) (footer:List UInt8) (w:World) (hs:footer.length≤maxLen) (hl:(qg f).length≤65000) :
  Calls Tryz.prog 74 #[formV f,strB footer] w (FK f footer w):=by
 have hmf:∀ (fn:Fn) (first cap:Array Value) (w:World),(Instr.makeFunc fn first cap).run Tryz.prog w=.ok (.func fn first cap) w:=fun _ _ _ _=>rfl
 have Hs:=hid hs
 have Hl:=hid hl
 clear hs hl
 show Calls _ _ #[.agg (formC f),strB footer] _ _
 generalize hFC:formC f=FC
 have HFC:=hid hFC
 clear hFC
 obtain ⟨hb0,hl0,h1,h2,h3⟩:=LB w FC 77 #[strB footer] 9 sheet0 82
 go_enter Tryz.func74,Tryz.ntmps74
 go_wp2_with fail
 generalize ((w.alloc _).alloc _).alloc _=W0 at *
 have HB0:=hid hb0
 have H1:Hid (W0.heap[w.heap.size]?=some (.cells (formC f) 77 (0,0))):=by show _=_;rw [HFC.out];exact h1
 have H2:Hid (W0.cell? ⟨w.heap.size+1,0,none⟩=some (strB footer)):=by show _=_;rw [jb h2];rfl
 have H3:=hid h3
 clear hb0 h1 h2 h3
 refine (SY f footer w.heap.size (w.heap.size+1) W0 Hs.out Hl.out H1.out H2.out).mono ?_
 rintro e w1 ⟨hb1,⟨hn,rfl⟩|⟨S,cv,pv,Kb,V,Qp,Qm,Pv,hS,hok,rfl,hin⟩⟩
 ·have HN:=hid hn
  have HB1:=hid (HB0.out.trans (hb1.mono HB0.out.size))
  have H31:=hid (jd hb1 H3.out)
  clear hb1 hn
  obtain ⟨hbA,hlA,_,hoA⟩:=jK w1 sheet0 82
  have gA:=jy (w1.alloc (.cells sheet0 82)) w1.heap.size sheet0
  have h3A:=jk gA (jd hbA H31.out) (by have:=HB1.out.size;have:=(Array.getElem?_eq_some_iff.1 H31.out).1;omega)
  have HBA:=hid ((HB1.out.trans (hbA.mono HB1.out.size)).trans (jq gA HB1.out.size (Nat.le_trans HB1.out.size hbA.size)))
  go_wp2_with (first
   | (refine wpList_store_row rfl 82 (.tmp 6) (.tmp 11) rfl w1.heap.size sheet0 rfl rfl 82 sheet0 hoA (by kernel_rfl) rfl (by simp [Value.oneCell']) ?_)
   | (refine wpList_store_row rfl 82 (.tmp 4) (.tmp 15) rfl (w.heap.size+1+1) sheet0 rfl rfl 82 sheet0 h3A (by kernel_rfl) rfl (by simp [Value.oneCell']) ?_))
  show bodyPost _ _ _ _ _ (((w1.alloc (.cells sheet0 82)).setRow w1.heap.size sheet0).setRow (w.heap.size+1+1) sheet0)
  have H3A:=hid h3A
  clear hoA h3A gA hbA
  generalize (w1.alloc _).setRow _ _=w2 at *
  have HoF:=hid (setRow_heap w2 (w.heap.size+1+1) _ sheet0 82 (0,0) H3A.out)
  have HBF:=hid (HBA.out.trans (jq (jy w2 (w.heap.size+1+1) sheet0) (by omega) HBA.out.size))
  generalize w2.setRow _ _=WF at *
  exact bodyPost_ret (v:=.tuple #[.agg sheet0,.int .i64 9]) (qY (p:=4) (q:=5) rfl _ _ _ _ _ rfl rfl (run_loadVar_row (P:=Tryz.prog) WF (w.heap.size+1+1) 82 82 sheet0 (0,0) _ HoF.out Tryz.underlying82 rfl (by kernel_rfl))) rfl ⟨HBF.out,.inl ⟨HN.out,rfl⟩⟩
 ·have HFS:=hid (And.intro hS hok)
  have HB1:=hid (HB0.out.trans (hb1.mono HB0.out.size))
  have H31:=hid (jd hb1 H3.out)
  obtain ⟨_,hsz,hone⟩:=hin.one
  have HIN:=hid (hin.lower (b:=w.heap.size) HB0.out.size)
  clear hb1 hS hok hin
  generalize hCC:qR S f cv pv Kb=CC at *
  have HCC:=hid hCC
  clear hCC
  have hinf:(Tryz.prog.info? 82).map (·.size)=some CC.size:=by rw [hsz];kernel_rfl
  have hsz0:sheet0.size=CC.size:=by rw [hsz];rfl
  clear hsz
  obtain ⟨hbA,hlA,_,hoA⟩:=jK w1 sheet0 82
  have gA:=jy (w1.alloc (.cells sheet0 82)) w1.heap.size CC
  have oA:=setRow_heap (w1.alloc (.cells sheet0 82)) w1.heap.size _ CC 82 (0,0) hoA
  have h3A:=jk gA (jd hbA H31.out) (by have:=HB1.out.size;have:=(Array.getElem?_eq_some_iff.1 H31.out).1;omega)
  have HBA:=hid ((HB1.out.trans (hbA.mono HB1.out.size)).trans (jq gA HB1.out.size (Nat.le_trans HB1.out.size hbA.size)))
  have HIA:=hid ((HIN.out.later hbA).grown gA hoA (by decide) (by decide) (by decide) (by decide))
  go_wp2_with (first
   | (refine wpList_store_row rfl 82 (.tmp 6) (.tmp 11) rfl w1.heap.size CC rfl rfl 82 sheet0 hoA hinf hsz0 hone ?_)
   | (refine wpList_load_row rfl 82 (.tmp 6) rfl w1.heap.size rfl 82 CC (0,0) _ oA Tryz.underlying82 rfl hinf ?_)
   | (refine wpList_store_row rfl 82 (.tmp 4) (.tmp 16) rfl (w.heap.size+1+1) CC rfl rfl 82 sheet0 h3A hinf hsz0 hone ?_))
  show bodyPost _ _ _ _ _ (((w1.alloc (.cells sheet0 82)).setRow w1.heap.size CC).setRow (w.heap.size+1+1) CC)
  have H3A:=hid h3A
  clear hoA oA h3A gA hbA
  generalize (w1.alloc _).setRow _ _=w2 at *
  have HoF:=hid (setRow_heap w2 (w.heap.size+1+1) _ CC 82 (0,0) H3A.out)
  have HBF:=hid (HBA.out.trans (jq (jy w2 (w.heap.size+1+1) CC) (by omega) HBA.out.size))
  have HIF:=hid (HIA.out.grown (jy w2 (w.heap.size+1+1) CC) H3A.out (by decide) (by decide) (by decide) (by decide))
  generalize w2.setRow _ _=WF at *
  exact bodyPost_ret (v:=.tuple #[.agg CC,.int .i64 0]) (qY (p:=4) (q:=5) rfl _ _ _ _ _ rfl rfl (run_loadVar_row (P:=Tryz.prog) WF (w.heap.size+1+1) 82 82 CC (0,0) _ HoF.out Tryz.underlying82 rfl hinf)) rfl ⟨HBF.out,.inr ⟨S,cv,pv,Kb,V,Qp,Qm,Pv,HFS.out.1,HFS.out.2,by rw [HCC.out],by rw [HCC.out];exact HIF.out⟩⟩
end
section
def qd (pre:List UInt8) (f:FormF):List UInt8:=jR pre (if f.told=true then 83 else 70) 0 0 0++f.footer
theorem UY (f:FormF) (pre:List UInt8) (w:World) (hpre:pre.length≤20) (hf:f.footer.length≤5000) :
  Calls Tryz.prog 85 #[formV f,strB pre] w fun e w'=>e=.returned (strB (qd pre f))∧Below w.heap.size w w':=by
 have HE:Hid (qd pre f=jR pre (if f.told=true then 83 else 70) 0 0 0++f.footer):=rfl
 have HFV:Hid (formV f=.agg #[.int .i64 (f.foot:Int),.bool f.told,strB f.footer,strB [if f.told=true then 83 else 70],.int .i64 0,.int .i64 0,.int .i64 0,strB f.nonce,strB f.body,strB (qg f)]):=rfl
 generalize (if f.told=true then (83:UInt8) else 70)=sb at *
 have hfv:=HFV.out
 rw [hfv]
 clear hfv HFV
 obtain ⟨hb1,hl1,_,ho1⟩:=JY w #[.int .i64 (f.foot:Int),.bool f.told,strB f.footer,strB [sb],.int .i64 0,.int .i64 0,.int .i64 0,strB f.nonce,strB f.body,strB (qg f)] 77 #[strB f.footer] 9
 go_enter Tryz.func85,Tryz.ntmps85
 go_wp2_with fail
 generalize (w.alloc _).alloc _=W1 at *
 have HB1:=hid hb1
 refine (XW sb 0 0 0 pre (.slice (some ⟨w.heap.size+1,0,none⟩) 1 1) f.footer W1 (by decide) (by decide) (by decide) hpre hf (YV f.footer (w.heap.size+1) W1 (by omega) ho1)).mono ?_
 rintro e w2 ⟨rfl,hb2⟩
 have HB2:=hid (HB1.out.trans (hb2.mono HB1.out.size))
 clear hb1 hb2 ho1
 go_wp2
 go_ret
 exact ⟨xj HE.out.symm,HB2.out⟩
def NC (f:FormF) (o:Option (List UInt8)):Value:=if f.told=true then .tuple #[strB f.footer,.bool (decide (o=some []))] else GH o
theorem Ah (f:FormF) (sec pre:List UInt8) (w:World) (hpre:pre.length≤20) (hf:f.footer.length≤5000) (hx:(qd pre f).length≤5000) (hsec:sec.length≤1000) (hnon:f.nonce.length≤1000) (hbody:f.body.length≤maxLen) :
  Calls Tryz.prog 109 #[formV f,strB sec,strB pre] w fun e w'=>e=.returned (NC f (xr sec f.nonce (qd pre f) f.body))∧Below w.heap.size w w':=by
 have HFX:Hid (∀ w':World,Calls Tryz.prog 85 #[.agg #[.int .i64 (f.foot:Int),.bool f.told,strB f.footer,strB [if f.told=true then 83 else 70],.int .i64 0,.int .i64 0,.int .i64 0,strB f.nonce,strB f.body,strB (qg f)],strB pre] w' fun e w2=>e=.returned (strB (qd pre f))∧Below w'.heap.size w' w2):=fun w'=>UY f pre w' hpre hf
 have HPL:=hid (fun w'=>Yf sec f.nonce (qd pre f) f.body w' hsec hnon hx hbody)
 show Calls _ _ #[.agg #[.int .i64 (f.foot:Int),.bool f.told,strB f.footer,strB [if f.told=true then 83 else 70],.int .i64 0,.int .i64 0,.int .i64 0,strB f.nonce,strB f.body,strB (qg f)],strB sec,strB pre] _ _
 generalize (if f.told=true then (83:UInt8) else 70)=sb at *
 generalize qd pre f=ext at *
 generalize xr sec f.nonce ext f.body=O at *
 have HU:Hid (NC f O=if f.told=true then .tuple #[strB f.footer,.bool (decide (O=some []))] else GH O):=rfl
 generalize f.told=T at *
 rcases O with _|P
 all_goals
  simp only [GH] at HPL
  obtain ⟨hb0,hl0,_,ho0⟩:=jK w #[.int .i64 (f.foot:Int),.bool T,strB f.footer,strB [sb],.int .i64 0,.int .i64 0,.int .i64 0,strB f.nonce,strB f.body,strB (qg f)] 77
  go_enter Tryz.func109,Tryz.ntmps109
  go_wp2_with fail
  generalize w.alloc _=W0 at *
  have HB0:=hid hb0
  have Ho0:=hid ho0
  have HC0:=hid (xE ho0).1
  clear hb0 ho0 hpre hf hx hsec hnon hbody
  go_region_held3 (fun w'=>w'.cell? ⟨w.heap.size,0,none⟩=some (.int .i64 (f.foot:Int))∧w'.cell? ⟨w.heap.size,1,none⟩=some (.bool T)∧w'.cell? ⟨w.heap.size,2,none⟩=some (strB f.footer)∧w'.cell? ⟨w.heap.size,3,none⟩=some (strB [sb])∧w'.cell? ⟨w.heap.size,4,none⟩=some (.int .i64 0)∧w'.cell? ⟨w.heap.size,5,none⟩=some (.int .i64 0)∧w'.cell? ⟨w.heap.size,6,none⟩=some (.int .i64 0)∧w'.cell? ⟨w.heap.size,7,none⟩=some (strB f.nonce)∧w'.cell? ⟨w.heap.size,8,none⟩=some (strB f.body)∧w'.cell? ⟨w.heap.size,9,none⟩=some (strB (qg f)))
   (first|with_reducible exact HC2.out|with_reducible exact HC1.out|exact HC0.out)
   (first
    | (go_at_call 85;refine (HFX.out _).mono ?_;rintro e w1 ⟨rfl,hb1⟩;have hb1':=jl hb1;have HC1:=hid (xE (jd hb1' Ho0.out)).1)
    | (go_at_call 57;refine (HPL.out _).mono ?_;rintro e w2 ⟨rfl,hb2⟩;have HC2:=hid (xE (jd (hb1'.trans (hb2.mono hb1'.size)) Ho0.out)).1))
  have HB2:=hid (HB0.out.trans ((hb1'.trans (hb2.mono hb1'.size)).mono HB0.out.size))
  obtain ⟨y0,y1,y2,y3,y4,y5,y6,y7,y8,y9⟩:=HC2.out
  clear hb1 hb1' hb2
  cases T
  all_goals
   go_wp2
   go_ret2
   refine ⟨?_,HB2.out⟩
   rw [HU.out]
   first
   | rfl
   | (cases P<;>rfl)
end
end Go.Proofs.YthhpbhpfagoapabGreat
