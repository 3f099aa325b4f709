import Derived.Test.YthhpbhpfagoapaaGreatJAW
import Derived.Test.YthhpbhpfagoapaaGreatJAP
import Derived.Test.YthhpbhpfagoapaaGreatJAS
import Derived.Test.YthhpbhpfagoapaaGreatJAF
import Derived.Test.YthhpbhpfagoapaaGreatWChunk
import Derived.Test.YthhpbhpfagoapaaGreatWMeta
import Derived.Test.YthhpbhpfagoapaaGreatRTk
import Derived.Test.YthhpbhpfagoapaaGreatJAO
import Derived.Test.YthhpbhpfagoapaaGreatJAD
namespace Go.Proofs.YthhpbhpfagoapaaGreat
set_option linter.unusedVariables false
set_option linter.unusedSimpArgs false
set_option maxRecDepth 100000
set_option maxHeartbeats 16000000
open Go.RowKit
section
def keyedV (f:FormF) (has:Bool) (o:Option (List UInt8)):Value :=
 if has=false then .tuple #[strB [],.int .i64 8]
 else if f.told=true then (if o=some [] then .tuple #[strB f.footer,.int .i64 0] else .tuple #[strB [],.int .i64 4])
 else match o with
  | some p=>.tuple #[strB p,.int .i64 0]
  | none=>.tuple #[strB [],.int .i64 4]
theorem unlock_any (f:FormF) (pre:List UInt8) (ra:Option Addr) (rcap:Nat) (r:List KeyB) (w:World) (hpre:pre.length≤20) (hf:f.footer.length≤5000) (hx:(footExtF pre f).length≤5000) (hnon:f.nonce.length≤1000) (hbody:f.body.length≤maxLen) (hr:ringOkB r=true) (hrm:r.length≤maxLen) (hl:LiesK w ra r) :
  Calls Tryz.prog 161 #[formV f,strB pre,.slice ra r.length rcap] w fun e w'=>e=.returned (keyedV f (hasNumB r (f.foot:Int)) (openF (secretB r (f.foot:Int)) f.nonce (footExtF pre f) f.body))∧Below w.heap.size w w':=by
 have hsec:(secretB r (f.foot:Int)).length≤1000:=by
  cases hh:hasNumB r (f.foot:Int) with
  | true=>rw [secret_len hr hh];decide
  | false=>rw [(secret_none hr).2 hh];decide
 have HUN:Hid (∀ w':World,Calls Tryz.prog 231 #[.agg #[.int .i64 (f.foot:Int),.bool f.told,strB f.footer,strB [if f.told=true then 83 else 70],.int .i64 0,.int .i64 0,.int .i64 0,strB f.nonce,strB f.body,strB (aheadF f)],strB (secretB r (f.foot:Int)),strB pre] w' fun e w2=>e=.returned (unlockV f (openF (secretB r (f.foot:Int)) f.nonce (footExtF pre f) f.body))∧Below w'.heap.size w' w2):=fun w'=>unlockF_any f _ pre w' hpre hf hx hsec hnon hbody
 have HSE:=hid (fun w' (h:LiesK w' ra r)=>secret_any ra rcap r (f.foot:Int) w' hrm h)
 have HKV:Hid (∀ h o,keyedV f h o=if h=false then .tuple #[strB [],.int .i64 8]
   else if f.told=true then (if o=some [] then .tuple #[strB f.footer,.int .i64 0] else .tuple #[strB [],.int .i64 4])
   else match o with
    | some p=>.tuple #[strB p,.int .i64 0]
    | none=>.tuple #[strB [],.int .i64 4]):=fun _ _=>rfl
 have HUV:Hid (∀ o,unlockV f o=if f.told=true then .tuple #[strB f.footer,.bool (decide (o=some []))] else openV o):=fun _=>rfl
 have Hl:=hid hl
 show Calls _ _ #[.agg #[.int .i64 (f.foot:Int),.bool f.told,strB f.footer,strB [if f.told=true then 83 else 70],.int .i64 0,.int .i64 0,.int .i64 0,strB f.nonce,strB f.body,strB (aheadF f)],strB pre,.slice ra r.length rcap] _ _
 generalize (if f.told=true then (83:UInt8) else 70)=sb at *
 generalize openF (secretB r (f.foot:Int)) f.nonce (footExtF pre f) f.body=O at *
 generalize secretB r (f.foot:Int)=sec at *
 generalize hasNumB r (f.foot:Int)=has at *
 generalize f.told=T at *
 clear hpre hf hx hnon hbody hr hsec hl
 obtain ⟨hb0,hl0,_,ho0⟩:=boxedW w #[.int .i64 (f.foot:Int),.bool T,strB f.footer,strB [sb],.int .i64 0,.int .i64 0,.int .i64 0,strB f.nonce,strB f.body,strB (aheadF f)] 115
 obtain ⟨⟨x0,x1,x2,x3,x4,x5,x6,x7,x8,x9⟩,_⟩:=cells10 ho0
 go_enter Tryz.func161,Tryz.ntmps161
 go_wp2_with fail
 generalize w.alloc _=W0 at *
 have HB0:=hid hb0
 have Ho0:=hid ho0
 have HL0:=hid (Hl.out.later hb0)
 clear hb0 ho0 x0 x1 x2 x3 x4 x5 x6 x7 x8 x9
 refine (HSE.out W0 HL0.out).mono ?_
 rintro e w1 ⟨rfl,hb1⟩
 have HB1:=hid (HB0.out.trans (hb1.mono HB0.out.size))
 obtain ⟨⟨x0,x1,x2,x3,x4,x5,x6,x7,x8,x9⟩,_⟩:=cells10 (heap_later hb1 Ho0.out)
 clear hb1
 cases has
 ·go_wp2
  go_ret2
  exact ⟨by rw [HKV.out];rfl,HB1.out⟩
 ·go_wp2_with fail
  refine (HUN.out w1).mono ?_
  rintro e w2 ⟨rfl,hb2⟩
  have HB2:=hid (HB1.out.trans (hb2.mono HB1.out.size))
  clear hb2 x0 x1 x2 x3 x4 x5 x6 x7 x8 x9
  rw [HUV.out]
  cases T
  ·rcases O with _|P
   all_goals
    simp only [openV,Bool.false_eq_true,if_false]
    go_wp2
    go_ret2
    exact ⟨by rw [HKV.out];rfl,HB2.out⟩
  ·by_cases hO:O=some []
   ·subst hO
    have hd:decide (some ([]:List UInt8)=some [])=true:=by simp
    have HK:Hid (keyedV f true (some [])=.tuple #[strB f.footer,.int .i64 0]):=by show _=_;rw [HKV.out];rfl
    rw [hd]
    simp only [if_true]
    go_wp2
    go_ret2
    exact ⟨by rw [HK.out];rfl,HB2.out⟩
   ·have hd:decide (O=some [])=false:=decide_eq_false hO
    have HK:Hid (keyedV f true O=.tuple #[strB [],.int .i64 4]):=by show _=_;rw [HKV.out];simp [hO]
    rw [hd]
    simp only [if_true]
    go_wp2
    go_ret2
    exact ⟨by rw [HK.out];rfl,HB2.out⟩
end
section
theorem sheet0_one:sheet0.all (·.oneCell')=true:=by simp [Value.oneCell']
def SheetAns (res:Int × Option SheetF) (f:FormF) (w:World) (e:Ending) (w':World):Prop :=
 Below w.heap.size w w'∧((∃ err C,res=(err,none)∧err≠0∧C.size=18∧C.all (·.oneCell')=true∧e=.returned (.tuple #[.agg C,.int .i64 err])) ∨
  ∃ S cv pv Kb V Qp Qm Pv,res=(0,some S)∧e=.returned (.tuple #[.agg (sheetC S f cv pv Kb),.int .i64 0])∧SheetIn S f w.heap.size w' (.agg (sheetC S f cv pv Kb)) cv pv Kb V Qp Qm Pv)
noncomputable def hideF (f:FormF) (has:Bool) (o:Option (List UInt8)):Int × Option SheetF :=
 if has=false then (8,none)
 else match o with
  | none=>(4,none)
  | some footer=>match sheetAt f.foot f.parts footer with
   | none=>(9,none)
   | some S=>(0,some S)
theorem readHidden_any (f:FormF) (pre:List UInt8) (ra:Option Addr) (rcap:Nat) (r:List KeyB) (w:World) (ht:f.told=false) (hah:(aheadF f).length≤65000) (hpre:pre.length≤20) (hf:f.footer.length≤5000) (hx:(footExtF pre f).length≤5000) (hnon:f.nonce.length≤1000) (hbody:f.body.length≤maxLen) (hr:ringOkB r=true) (hrm:r.length≤maxLen) (hl:LiesK w ra r) :
  Calls Tryz.prog 100 #[formV f,strB pre,.slice ra r.length rcap] w (SheetAns (hideF f (hasNumB r (f.foot:Int)) (openF (secretB r (f.foot:Int)) f.nonce (footExtF pre f) f.body)) f w):=by
 have HUN:Hid (∀ w':World,LiesK w' ra r→Calls Tryz.prog 161 #[.agg (formC f),strB pre,.slice ra r.length rcap] w' fun e w2=>e=.returned (keyedV f (hasNumB r (f.foot:Int)) (openF (secretB r (f.foot:Int)) f.nonce (footExtF pre f) f.body))∧Below w'.heap.size w' w2):=fun w' h=>unlock_any f pre ra rcap r w' hpre hf hx hnon hbody hr hrm h
 have HKV:Hid (∀ h o,keyedV f h o=if h=false then .tuple #[strB [],.int .i64 8]
   else match o with
    | some p=>.tuple #[strB p,.int .i64 0]
    | none=>.tuple #[strB [],.int .i64 4]):=by
  intro h o
  unfold keyedV
  rw [ht]
  rfl
 have HLY:Hid (∀ (p:List UInt8) (w':World),p.length≤maxLen→Calls Tryz.prog 160 #[.agg (formC f),strB p] w' (LayX f p w')):=fun p w' hp=>layOut_any f p w' hp hah
 have HOL:Hid (∀ p,openF (secretB r (f.foot:Int)) f.nonce (footExtF pre f) f.body=some p→p.length≤maxLen):=by
  intro p hp
  obtain ⟨h1,h2⟩:=openF_some hp
  have:=congrArg List.length h1
  rw [bodyB_length] at this
  unfold maxLen
  omega
 have Hl:=hid hl
 show Calls _ _ #[.agg (formC f),strB pre,.slice ra r.length rcap] _ _
 have HFV:Hid (formV f=.agg (formC f)):=rfl
 generalize openF (secretB r (f.foot:Int)) f.nonce (footExtF pre f) f.body=O at *
 generalize hasNumB r (f.foot:Int)=has at *
 generalize hFC:formC f=FC at *
 have HFC:=hid hFC
 have hFs:FC.size=10:=by rw [← hFC];rfl
 have hFo:FC.all (·.oneCell')=true:=by rw [← hFC];exact formC_one f
 have hFi:(Tryz.prog.info? 115).map (·.size)=some FC.size:=by rw [hFs];kernel_rfl
 clear hpre hf hx hnon hbody hr hl ht hah hFC hFs
 obtain ⟨hb0,hl0,ho0,hq0⟩:=boxes2 w FC 115 sheet0 120
 go_enter Tryz.func100,Tryz.ntmps100
 go_wp2_with (refine wpList_load_row rfl 115 (.tmp 3) rfl w.heap.size rfl 115 FC (0,0) _ ho0 Tryz.underlying115 rfl hFi ?_)
 have HL0:=hid (Hl.out.later hb0)
 generalize (w.alloc _).alloc _=W0 at *
 have HB0:=hid hb0
 have Ho0:=hid ho0
 have Hq0:=hid hq0
 clear hb0 ho0 hq0
 refine (HUN.out W0 HL0.out).mono ?_
 rintro e w1 ⟨rfl,hb1⟩
 have HB1:=hid (HB0.out.trans (hb1.mono HB0.out.size))
 have Ho1:=hid (heap_later hb1 Ho0.out)
 have Hq1:=hid (heap_later hb1 Hq0.out)
 have hz1:=hb1.size
 clear hb1
 rw [HKV.out]
 cases has
 ·simp only [if_true]
  go_wp2_with (refine wpList_store_row rfl 120 (.tmp 6) (.tmp 19) rfl (w.heap.size+1) sheet0 rfl rfl 120 sheet0 Hq1.out (by kernel_rfl) rfl (by simp [Value.oneCell']) ?_)
  have HoF:=hid (setRow_heap w1 (w.heap.size+1) _ sheet0 120 (0,0) Hq1.out)
  have HBF:=hid (HB1.out.trans (below_own (setRow_grown w1 (w.heap.size+1) sheet0) (by omega) HB1.out.size))
  generalize w1.setRow _ _=WF at *
  exact bodyPost_ret (v:=.tuple #[.agg sheet0,.int .i64 8]) (results_ct (p:=6) (q:=7) rfl _ _ _ _ _ rfl rfl (run_loadVar_row (P:=Tryz.prog) WF (w.heap.size+1) 120 120 sheet0 (0,0) _ HoF.out Tryz.underlying120 rfl (by kernel_rfl))) rfl ⟨HBF.out,.inl ⟨8,sheet0,rfl,by decide,rfl,sheet0_one,rfl⟩⟩
 ·simp only [Bool.true_eq_false,if_false]
  rcases O with _|P
  ·go_wp2_with (refine wpList_store_row rfl 120 (.tmp 6) (.tmp 19) rfl (w.heap.size+1) sheet0 rfl rfl 120 sheet0 Hq1.out (by kernel_rfl) rfl (by simp [Value.oneCell']) ?_)
   have HoF:=hid (setRow_heap w1 (w.heap.size+1) _ sheet0 120 (0,0) Hq1.out)
   have HBF:=hid (HB1.out.trans (below_own (setRow_grown w1 (w.heap.size+1) sheet0) (by omega) HB1.out.size))
   generalize w1.setRow _ _=WF at *
   exact bodyPost_ret (v:=.tuple #[.agg sheet0,.int .i64 4]) (results_ct (p:=6) (q:=7) rfl _ _ _ _ _ rfl rfl (run_loadVar_row (P:=Tryz.prog) WF (w.heap.size+1) 120 120 sheet0 (0,0) _ HoF.out Tryz.underlying120 rfl (by kernel_rfl))) rfl ⟨HBF.out,.inl ⟨4,sheet0,rfl,by decide,rfl,sheet0_one,rfl⟩⟩
  ·have hPl:=HOL.out P rfl
   have HPl:=hid hPl
   clear hPl HOL
   go_wp2_with (refine wpList_load_row rfl 115 (.tmp 3) rfl w.heap.size rfl 115 FC (0,0) _ Ho1.out Tryz.underlying115 rfl hFi ?_)
   refine (HLY.out P w1 HPl.out).mono ?_
   rintro e w2 ⟨hb2,⟨hn,rfl⟩|⟨S,cv,pv,Kb,V,Qp,Qm,Pv,hS,hok,rfl,hin⟩⟩
   ·have HN:Hid (hideF f true (some P)=(9,none)):=by show _=_;unfold hideF;rw [if_neg (by decide)];simp only [hn]
    have HB2:=hid (HB1.out.trans (hb2.mono HB1.out.size))
    have Hq2:=hid (heap_later hb2 Hq1.out)
    clear hb2 hn
    go_wp2_with (refine wpList_store_row rfl 120 (.tmp 6) (.tmp 24) rfl (w.heap.size+1) sheet0 rfl rfl 120 sheet0 Hq2.out (by kernel_rfl) rfl (by simp [Value.oneCell']) ?_)
    have HoF:=hid (setRow_heap w2 (w.heap.size+1) _ sheet0 120 (0,0) Hq2.out)
    have HBF:=hid (HB2.out.trans (below_own (setRow_grown w2 (w.heap.size+1) sheet0) (by omega) HB2.out.size))
    generalize w2.setRow _ _=WF at *
    exact bodyPost_ret (v:=.tuple #[.agg sheet0,.int .i64 9]) (results_ct (p:=6) (q:=7) rfl _ _ _ _ _ rfl rfl (run_loadVar_row (P:=Tryz.prog) WF (w.heap.size+1) 120 120 sheet0 (0,0) _ HoF.out Tryz.underlying120 rfl (by kernel_rfl))) rfl ⟨HBF.out,.inl ⟨9,sheet0,HN.out,by decide,rfl,sheet0_one,rfl⟩⟩
   ·have HN:Hid (hideF f true (some P)=(0,some S)):=by show _=_;unfold hideF;rw [if_neg (by decide)];simp only [hS]
    have HB2:=hid (HB1.out.trans (hb2.mono HB1.out.size))
    have Hq2:=hid (heap_later hb2 Hq1.out)
    obtain ⟨_,hsz,hone⟩:=hin.one
    have HIN:=hid (hin.lower (b:=w.heap.size) HB1.out.size)
    clear hb2 hS hok hin
    generalize hCC:sheetC S f cv pv Kb=CC at *
    have HCC:=hid hCC
    clear hCC
    have hinf:(Tryz.prog.info? 120).map (·.size)=some CC.size:=by rw [hsz];kernel_rfl
    have hsz0:sheet0.size=CC.size:=by rw [hsz];rfl
    clear hsz
    go_wp2_with (refine wpList_store_row rfl 120 (.tmp 6) (.tmp 24) rfl (w.heap.size+1) CC rfl rfl 120 sheet0 Hq2.out hinf hsz0 hone ?_)
    have HoF:=hid (setRow_heap w2 (w.heap.size+1) _ CC 120 (0,0) Hq2.out)
    have HBF:=hid (HB2.out.trans (below_own (setRow_grown w2 (w.heap.size+1) CC) (by omega) HB2.out.size))
    have HIF:=hid (HIN.out.grown (setRow_grown w2 (w.heap.size+1) CC) Hq2.out (by decide) (by decide) (by decide) (by decide))
    generalize w2.setRow _ _=WF at *
    exact bodyPost_ret (v:=.tuple #[.agg CC,.int .i64 0]) (results_ct (p:=6) (q:=7) rfl _ _ _ _ _ rfl rfl (run_loadVar_row (P:=Tryz.prog) WF (w.heap.size+1) 120 120 CC (0,0) _ HoF.out Tryz.underlying120 rfl hinf)) rfl ⟨HBF.out,.inr ⟨S,cv,pv,Kb,V,Qp,Qm,Pv,HN.out,by rw [HCC.out],by rw [HCC.out];exact HIF.out⟩⟩
end
section
open Classical in
noncomputable def toldF (f:FormF) (has:Bool) (o:Option (List UInt8)) (trust:Bool):Int × Option SheetF :=
 match sheetAt f.foot f.parts f.footer with
 | none=>(9,none)
 | some S=>if trust=true then (0,some S) else if has=false then (8,none) else if o=some [] then (0,some S) else (4,none)
theorem readTold_any (f:FormF) (pre:List UInt8) (ra:Option Addr) (rcap:Nat) (r:List KeyB) (trust:Bool) (w:World) (ht:f.told=true) (hah:(aheadF f).length≤65000) (hfl:f.footer.length≤maxLen) (hpre:pre.length≤20) (hnon:f.nonce.length≤1000) (hbody:f.body.length≤maxLen) (hr:ringOkB r=true) (hrm:r.length≤maxLen) (hl:LiesK w ra r) :
  Calls Tryz.prog 99 #[formV f,strB pre,.slice ra r.length rcap,.bool trust] w (SheetAns (toldF f (hasNumB r (f.foot:Int)) (openF (secretB r (f.foot:Int)) f.nonce (footExtF pre f) f.body) trust) f w):=by
 have HUN:Hid (f.footer.length≤4200→∀ w':World,LiesK w' ra r→Calls Tryz.prog 161 #[.agg (formC f),strB pre,.slice ra r.length rcap] w' fun e w2=>e=.returned (keyedV f (hasNumB r (f.foot:Int)) (openF (secretB r (f.foot:Int)) f.nonce (footExtF pre f) f.body))∧Below w'.heap.size w' w2):=fun hf w' h=>unlock_any f pre ra rcap r w' hpre (by omega) (by
  have:=bound_len pre (if f.told=true then 83 else 70) 0 0 0 hpre
  unfold footExtF
  rw [List.length_append]
  omega) hnon hbody hr hrm h
 have HFL:Hid (∀ S,SheetOk f.foot f.parts f.footer S→f.footer.length≤4200):=fun S hS=>sheet_footer_len (fun x hx=>by
  have h1:=modsPlaces_le _ _ _ _ x hx
  rw [← hS.parts] at h1
  have h2:(aheadF f).length=4+f.parts.length:=(ahead_drop f).2.2
  omega) hS
 have HKV:Hid (∀ h o,keyedV f h o=if h=false then .tuple #[strB [],.int .i64 8] else if o=some [] then .tuple #[strB f.footer,.int .i64 0] else .tuple #[strB [],.int .i64 4]):=by
  intro h o
  unfold keyedV
  rw [ht]
  rfl
 have HLY:Hid (∀ w':World,Calls Tryz.prog 160 #[.agg (formC f),strB f.footer] w' (LayX f f.footer w')):=fun w'=>layOut_any f f.footer w' hfl hah
 have HTF:Hid (∀ h o,toldF f h o trust=match sheetAt f.foot f.parts f.footer with
   | none=>(9,none)
   | some S=>if trust=true then (0,some S) else if h=false then (8,none) else if o=some [] then (0,some S) else (4,none)):=fun h o=>by unfold toldF;rfl
 have Hl:=hid hl
 show Calls _ _ #[.agg (formC f),strB pre,.slice ra r.length rcap,.bool trust] _ _
 have HX2:Hid ((formC f)[2]?=some (strB f.footer)):=rfl
 generalize openF (secretB r (f.foot:Int)) f.nonce (footExtF pre f) f.body=O at *
 generalize hasNumB r (f.foot:Int)=has at *
 generalize hFC:formC f=FC at *
 have hFs:FC.size=10:=by rw [← hFC];rfl
 have hFi:(Tryz.prog.info? 115).map (·.size)=some FC.size:=by rw [hFs];kernel_rfl
 clear hpre hnon hbody hr hl ht hah hFC hFs hfl
 obtain ⟨hb0,hl0,ho0,hq0⟩:=boxes2 w FC 115 sheet0 120
 have x2:((w.alloc (.cells FC 115)).alloc (.cells sheet0 120)).cell? ⟨w.heap.size,2,none⟩=some (strB f.footer):=by rw [cell_of_heap ho0];exact HX2.out
 go_enter Tryz.func99,Tryz.ntmps99
 go_wp2_with (refine wpList_load_row rfl 115 (.tmp 4) rfl w.heap.size rfl 115 FC (0,0) _ ho0 Tryz.underlying115 rfl hFi ?_)
 have HL0:=hid (Hl.out.later hb0)
 generalize (w.alloc _).alloc _=W0 at *
 have HB0:=hid hb0
 have Ho0:=hid ho0
 have Hq0:=hid hq0
 clear hb0 ho0 hq0 x2
 refine (HLY.out W0).mono ?_
 rintro e w1 ⟨hb1,⟨hn,rfl⟩|⟨S,cv,pv,Kb,V,Qp,Qm,Pv,hS,hok,rfl,hin⟩⟩
 ·have HN:Hid (∀ h o,toldF f h o trust=(9,none)):=by intro h o;rw [HTF.out];simp only [hn]
  have HB1:=hid (HB0.out.trans (hb1.mono HB0.out.size))
  have Hq1:=hid (heap_later hb1 Hq0.out)
  have hz1:=hb1.size
  clear hb1 hn
  obtain ⟨hbA,hlA,_,hoA⟩:=boxedW w1 sheet0 120
  have gA:=setRow_grown (w1.alloc (.cells sheet0 120)) w1.heap.size sheet0
  have oA:=setRow_heap (w1.alloc (.cells sheet0 120)) w1.heap.size _ sheet0 120 (0,0) hoA
  have h3A:=grown_keeps gA (heap_later hbA Hq1.out) (by have:=(Array.getElem?_eq_some_iff.1 Hq1.out).1;omega)
  have HBA:=hid ((HB1.out.trans (hbA.mono HB1.out.size)).trans (below_own gA HB1.out.size (Nat.le_trans HB1.out.size hbA.size)))
  go_wp2_with (first
   | (refine wpList_store_row rfl 120 (.tmp 10) (.tmp 17) rfl w1.heap.size sheet0 rfl rfl 120 sheet0 hoA (by kernel_rfl) rfl (by simp [Value.oneCell']) ?_)
   | (refine wpList_load_row rfl 120 (.tmp 10) rfl w1.heap.size rfl 120 sheet0 (0,0) _ oA Tryz.underlying120 rfl (by kernel_rfl) ?_)
   | (refine wpList_store_row rfl 120 (.tmp 8) (.tmp 32) rfl (w.heap.size+1) sheet0 rfl rfl 120 sheet0 h3A (by kernel_rfl) rfl (by simp [Value.oneCell']) ?_))
  show bodyPost _ _ _ _ _ (((w1.alloc (.cells sheet0 120)).setRow w1.heap.size sheet0).setRow (w.heap.size+1) sheet0)
  have H3A:=hid h3A
  clear hoA oA h3A gA hbA
  generalize (w1.alloc _).setRow _ _=w2 at *
  have HoF:=hid (setRow_heap w2 (w.heap.size+1) _ sheet0 120 (0,0) H3A.out)
  have HBF:=hid (HBA.out.trans (below_own (setRow_grown w2 (w.heap.size+1) sheet0) (by omega) HBA.out.size))
  generalize w2.setRow _ _=WF at *
  exact bodyPost_ret (v:=.tuple #[.agg sheet0,.int .i64 9]) (results_ct (p:=8) (q:=9) rfl _ _ _ _ _ rfl rfl (run_loadVar_row (P:=Tryz.prog) WF (w.heap.size+1) 120 120 sheet0 (0,0) _ HoF.out Tryz.underlying120 rfl (by kernel_rfl))) rfl ⟨HBF.out,.inl ⟨9,sheet0,HN.out _ _,by decide,rfl,sheet0_one,rfl⟩⟩
 ·have HTS:Hid (∀ h o,toldF f h o trust=if trust=true then (0,some S) else if h=false then (8,none) else if o=some [] then (0,some S) else (4,none)):=by intro h o;rw [HTF.out];simp only [hS]
  have HF4:=hid (HFL.out S hok)
  have HB1:=hid (HB0.out.trans (hb1.mono HB0.out.size))
  have Hq1:=hid (heap_later hb1 Hq0.out)
  have Ho1:=hid (heap_later hb1 Ho0.out)
  have hz1:=hb1.size
  obtain ⟨_,hsz,hone⟩:=hin.one
  have HIN:=hid (hin.lower (b:=w.heap.size) HB0.out.size)
  clear hb1 hS hok hin HTF HFL
  generalize hCC:sheetC S f cv pv Kb=CC at *
  have HCC:=hid hCC
  clear hCC
  have HSZ:=hid hsz
  have hinf:(Tryz.prog.info? 120).map (·.size)=some CC.size:=by rw [hsz];kernel_rfl
  have hsz0:sheet0.size=CC.size:=by rw [hsz];rfl
  clear hsz
  obtain ⟨hbA,hlA,_,hoA⟩:=boxedW w1 sheet0 120
  have hqlt:=(Array.getElem?_eq_some_iff.1 Hq1.out).1
  have gA:=setRow_grown (w1.alloc (.cells sheet0 120)) w1.heap.size CC
  have oA:=setRow_heap (w1.alloc (.cells sheet0 120)) w1.heap.size _ CC 120 (0,0) hoA
  have h3A:=grown_keeps gA (heap_later hbA Hq1.out) (by omega)
  have f3A:=grown_keeps gA (heap_later hbA Ho1.out) (by omega)
  have HBA:=hid ((HB1.out.trans (hbA.mono HB1.out.size)).trans (below_own gA HB1.out.size (Nat.le_trans HB1.out.size hbA.size)))
  have HIA:=hid ((HIN.out.later hbA).grown gA hoA (by decide) (by decide) (by decide) (by decide))
  cases trust
  ·have HTS2:Hid (∀ h o,toldF f h o false=if h=false then (8,none) else if o=some [] then (0,some S) else (4,none)):=by intro h o;rw [HTS.out,if_neg (by decide)]
   go_wp2_with (first
    | (refine wpList_store_row rfl 120 (.tmp 10) (.tmp 17) rfl w1.heap.size CC rfl rfl 120 sheet0 hoA hinf hsz0 hone ?_)
    | (refine wpList_load_row rfl 115 (.tmp 4) rfl w.heap.size rfl 115 FC (0,0) _ f3A Tryz.underlying115 rfl hFi ?_))
   have HLA:=hid (Hl.out.later HBA.out)
   have H3A:=hid h3A
   have HoA:=hid oA
   clear hoA oA h3A f3A gA hbA
   show Calls _ _ _ ((w1.alloc (.cells sheet0 120)).setRow w1.heap.size CC) _
   generalize (w1.alloc _).setRow _ _=w2 at *
   refine (HUN.out HF4.out w2 HLA.out).mono ?_
   rintro e w3 ⟨rfl,hb3⟩
   have HBE:=hid (HBA.out.trans (hb3.mono HBA.out.size))
   have HqE:=hid (heap_later hb3 H3A.out)
   have HlE:=hid (heap_later hb3 HoA.out)
   have HIE:=hid (HIA.out.later hb3)
   clear hb3
   rw [HKV.out]
   cases has
   ·simp only [if_true]
    have HT:Hid (toldF f false O false=(8,none)):=by show _=_;rw [HTS2.out,if_pos rfl]
    go_wp2_with (first
    | (refine wpList_load_row rfl 120 (.tmp 10) rfl w1.heap.size rfl 120 CC (0,0) _ HlE.out Tryz.underlying120 rfl hinf ?_)
    | (refine wpList_store_row rfl 120 (.tmp 8) (.tmp 32) rfl (w.heap.size+1) CC rfl rfl 120 sheet0 HqE.out hinf hsz0 hone ?_))
    have HoF:=hid (setRow_heap w3 (w.heap.size+1) _ CC 120 (0,0) HqE.out)
    have HBF:=hid (HBE.out.trans (below_own (setRow_grown w3 (w.heap.size+1) CC) (by omega) HBE.out.size))
    have HIF:=hid (HIE.out.grown (setRow_grown w3 (w.heap.size+1) CC) HqE.out (by decide) (by decide) (by decide) (by decide))
    generalize w3.setRow _ _=WF at *
    exact bodyPost_ret (v:=.tuple #[.agg CC,.int .i64 8]) (results_ct (p:=8) (q:=9) rfl _ _ _ _ _ rfl rfl (run_loadVar_row (P:=Tryz.prog) WF (w.heap.size+1) 120 120 CC (0,0) _ HoF.out Tryz.underlying120 rfl hinf)) rfl ⟨HBF.out,.inl ⟨8,CC,HT.out,by decide,HSZ.out,hone,rfl⟩⟩
   ·by_cases hO:O=some []
    ·have HT:Hid (toldF f true O false=(0,some S)):=by show _=_;rw [HTS2.out,if_neg (by decide),if_pos hO]
     rw [if_neg (by decide),if_pos hO]
     clear hO
     go_wp2_with (first
    | (refine wpList_load_row rfl 120 (.tmp 10) rfl w1.heap.size rfl 120 CC (0,0) _ HlE.out Tryz.underlying120 rfl hinf ?_)
    | (refine wpList_store_row rfl 120 (.tmp 8) (.tmp 32) rfl (w.heap.size+1) CC rfl rfl 120 sheet0 HqE.out hinf hsz0 hone ?_))
     have HoF:=hid (setRow_heap w3 (w.heap.size+1) _ CC 120 (0,0) HqE.out)
     have HBF:=hid (HBE.out.trans (below_own (setRow_grown w3 (w.heap.size+1) CC) (by omega) HBE.out.size))
     have HIF:=hid (HIE.out.grown (setRow_grown w3 (w.heap.size+1) CC) HqE.out (by decide) (by decide) (by decide) (by decide))
     generalize w3.setRow _ _=WF at *
     exact bodyPost_ret (v:=.tuple #[.agg CC,.int .i64 0]) (results_ct (p:=8) (q:=9) rfl _ _ _ _ _ rfl rfl (run_loadVar_row (P:=Tryz.prog) WF (w.heap.size+1) 120 120 CC (0,0) _ HoF.out Tryz.underlying120 rfl hinf)) rfl ⟨HBF.out,.inr ⟨S,cv,pv,Kb,V,Qp,Qm,Pv,HT.out,by rw [HCC.out],by rw [HCC.out];exact HIF.out⟩⟩
    ·have HT:Hid (toldF f true O false=(4,none)):=by show _=_;rw [HTS2.out,if_neg (by decide),if_neg hO]
     rw [if_neg (by decide),if_neg hO]
     clear hO
     go_wp2_with (first
    | (refine wpList_load_row rfl 120 (.tmp 10) rfl w1.heap.size rfl 120 CC (0,0) _ HlE.out Tryz.underlying120 rfl hinf ?_)
    | (refine wpList_store_row rfl 120 (.tmp 8) (.tmp 32) rfl (w.heap.size+1) CC rfl rfl 120 sheet0 HqE.out hinf hsz0 hone ?_))
     have HoF:=hid (setRow_heap w3 (w.heap.size+1) _ CC 120 (0,0) HqE.out)
     have HBF:=hid (HBE.out.trans (below_own (setRow_grown w3 (w.heap.size+1) CC) (by omega) HBE.out.size))
     have HIF:=hid (HIE.out.grown (setRow_grown w3 (w.heap.size+1) CC) HqE.out (by decide) (by decide) (by decide) (by decide))
     generalize w3.setRow _ _=WF at *
     exact bodyPost_ret (v:=.tuple #[.agg CC,.int .i64 4]) (results_ct (p:=8) (q:=9) rfl _ _ _ _ _ rfl rfl (run_loadVar_row (P:=Tryz.prog) WF (w.heap.size+1) 120 120 CC (0,0) _ HoF.out Tryz.underlying120 rfl hinf)) rfl ⟨HBF.out,.inl ⟨4,CC,HT.out,by decide,HSZ.out,hone,rfl⟩⟩
  ·have HT:Hid (toldF f has O true=(0,some S)):=by show _=_;rw [HTS.out,if_pos rfl]
   go_wp2_with (first
    | (refine wpList_store_row rfl 120 (.tmp 10) (.tmp 17) rfl w1.heap.size CC rfl rfl 120 sheet0 hoA hinf hsz0 hone ?_)
    | (refine wpList_load_row rfl 120 (.tmp 10) rfl w1.heap.size rfl 120 CC (0,0) _ oA Tryz.underlying120 rfl hinf ?_)
    | (refine wpList_store_row rfl 120 (.tmp 8) (.tmp 32) rfl (w.heap.size+1) CC rfl rfl 120 sheet0 h3A hinf hsz0 hone ?_))
   show bodyPost _ _ _ _ _ (((w1.alloc (.cells sheet0 120)).setRow w1.heap.size CC).setRow (w.heap.size+1) CC)
   have HqE:=hid h3A
   have HBE:=hid HBA.out
   have HIE:=hid HIA.out
   clear hoA oA h3A f3A gA hbA
   generalize (w1.alloc _).setRow _ _=w2 at *
   have HoF:=hid (setRow_heap w2 (w.heap.size+1) _ CC 120 (0,0) HqE.out)
   have HBF:=hid (HBE.out.trans (below_own (setRow_grown w2 (w.heap.size+1) CC) (by omega) HBE.out.size))
   have HIF:=hid (HIE.out.grown (setRow_grown w2 (w.heap.size+1) CC) HqE.out (by decide) (by decide) (by decide) (by decide))
   generalize w2.setRow _ _=WF at *
   exact bodyPost_ret (v:=.tuple #[.agg CC,.int .i64 0]) (results_ct (p:=8) (q:=9) rfl _ _ _ _ _ rfl rfl (run_loadVar_row (P:=Tryz.prog) WF (w.heap.size+1) 120 120 CC (0,0) _ HoF.out Tryz.underlying120 rfl hinf)) rfl ⟨HBF.out,.inr ⟨S,cv,pv,Kb,V,Qp,Qm,Pv,HT.out,by rw [HCC.out],by rw [HCC.out];exact HIF.out⟩⟩
end
section
def ReadSheetX (file pre:List UInt8) (r:List KeyB) (trust:Bool) (w:World) (e:Ending) (w':World):Prop :=
 ∃ f:FormF,(∀ S,sheetF file pre r trust=(0,some S)→formAt file=some f)∧SheetAns (sheetF file pre r trust) f w e w'
def f0:FormF:=⟨false,0,[],[],[],[]⟩
theorem readSheet_any (file pre:List UInt8) (ra:Option Addr) (rcap:Nat) (r:List KeyB) (trust:Bool) (w:World) (hfl:file.length≤maxLen) (hpl:pre.length≤maxLen) (hrm:r.length≤maxLen) (hl:LiesK w ra r) :
  Calls Tryz.prog 42 #[strB file,strB pre,.slice ra r.length rcap,.bool trust] w (ReadSheetX file pre r trust w):=by
 have hmf:∀ (fn:Fn) (first cap:Array Value) (w:World),(Instr.makeFunc fn first cap).run Tryz.prog w=.ok (.func fn first cap) w:=fun _ _ _ _=>rfl
 have Hfl:=hid hfl
 have Hpl:=hid hpl
 have Hl:=hid hl
 clear hfl hpl hl
 obtain ⟨hb0,hl0,ho0,hq0⟩:=boxes2 w #[strB file] 9 sheet0 120
 go_enter Tryz.func42,Tryz.ntmps42
 go_wp2_with fail
 have HL0:=hid (Hl.out.later hb0)
 generalize (w.alloc _).alloc _=W0 at *
 have HBW:=hid hb0
 have Ho0:=hid ho0
 have Hq0:=hid hq0
 clear hb0 ho0 hq0
 refine (isPrefix_any pre W0 Hpl.out).mono ?_
 rintro e w1 ⟨rfl,rfl⟩
 by_cases hp:¬ pre.length≤20
 ·have HS:Hid (sheetF file pre r trust=(7,none)):=by show _=_;unfold sheetF;rw [if_pos (by omega)]
  rw [decide_eq_false hp]
  clear hp
  go_wp2_with (refine wpList_store_row rfl 120 (.tmp 8) (.tmp 15) rfl (w.heap.size+1) sheet0 rfl rfl 120 sheet0 Hq0.out (by kernel_rfl) rfl (by simp [Value.oneCell']) ?_)
  have HoF:=hid (setRow_heap w1 (w.heap.size+1) _ sheet0 120 (0,0) Hq0.out)
  have HBF:=hid (HBW.out.trans (below_own (setRow_grown w1 (w.heap.size+1) sheet0) (by omega) HBW.out.size))
  generalize w1.setRow _ _=WF at *
  exact bodyPost_ret (v:=.tuple #[.agg sheet0,.int .i64 7]) (results_ct (p:=8) (q:=9) rfl _ _ _ _ _ rfl rfl (run_loadVar_row (P:=Tryz.prog) WF (w.heap.size+1) 120 120 sheet0 (0,0) _ HoF.out Tryz.underlying120 rfl (by kernel_rfl))) rfl ⟨f0,(fun S h=>by rw [HS.out] at h;simp at h),HBF.out,.inl ⟨7,sheet0,HS.out,by decide,rfl,sheet0_one,rfl⟩⟩
 have hp':=Decidable.not_not.1 hp
 rw [decide_eq_true hp']
 clear hp
 go_wp2_with fail
 refine (isRing_any ra rcap r w1 hrm HL0.out).mono ?_
 rintro e w2 ⟨rfl,hb2⟩
 have HB2:=hid (HBW.out.trans (hb2.mono HBW.out.size))
 have Ho2:=hid (heap_later hb2 Ho0.out)
 have Hq2:=hid (heap_later hb2 Hq0.out)
 have hz2:=hb2.size
 have HL2:=hid (Hl.out.later HB2.out)
 clear hb2 HBW
 have HBW:=HB2
 cases hr:ringOkB r with
 | false =>
  have HS:Hid (sheetF file pre r trust=(1,none)):=by show _=_;unfold sheetF;rw [if_neg (by omega),if_pos hr]
  clear hr
  go_wp2_with (refine wpList_store_row rfl 120 (.tmp 8) (.tmp 19) rfl (w.heap.size+1) sheet0 rfl rfl 120 sheet0 Hq2.out (by kernel_rfl) rfl (by simp [Value.oneCell']) ?_)
  have HoF:=hid (setRow_heap w2 (w.heap.size+1) _ sheet0 120 (0,0) Hq2.out)
  have HBF:=hid (HBW.out.trans (below_own (setRow_grown w2 (w.heap.size+1) sheet0) (by omega) HBW.out.size))
  generalize w2.setRow _ _=WF at *
  exact bodyPost_ret (v:=.tuple #[.agg sheet0,.int .i64 1]) (results_ct (p:=8) (q:=9) rfl _ _ _ _ _ rfl rfl (run_loadVar_row (P:=Tryz.prog) WF (w.heap.size+1) 120 120 sheet0 (0,0) _ HoF.out Tryz.underlying120 rfl (by kernel_rfl))) rfl ⟨f0,(fun S h=>by rw [HS.out] at h;simp at h),HBF.out,.inl ⟨1,sheet0,HS.out,by decide,rfl,sheet0_one,rfl⟩⟩
 | true =>
  have Hr:=hid hr
  clear hr
  have hcell:w2.cell? ⟨w.heap.size,0,none⟩=some (strB file):=by rw [cell_of_heap Ho2.out];rfl
  have HCell:=hid hcell
  clear hcell
  go_wp2_with fail
  refine (formTry file w.heap.size w2 Hfl.out HCell.out).mono ?_
  rintro e w3 ⟨hb3,⟨hn,rfl⟩|⟨f,hf,rfl⟩⟩
  ·have HS:Hid (sheetF file pre r trust=(9,none)):=by show _=_;unfold sheetF;rw [if_neg (by omega),if_neg (by rw [Hr.out];decide)];simp only [hn]
   have HB3:=hid (HB2.out.trans (hb3.mono HB2.out.size))
   have Hq3:=hid (heap_later hb3 Hq2.out)
   clear hb3 hn HBW
   obtain ⟨hbA,hlA,_,hoA⟩:=boxedW w3 form0 115
   have hqlt:=(Array.getElem?_eq_some_iff.1 Hq3.out).1
   have gA:=setRow_grown (w3.alloc (.cells form0 115)) w3.heap.size form0
   have hqA:=grown_keeps gA (heap_later hbA Hq3.out) (by omega)
   have HBW:=hid ((HB3.out.trans (hbA.mono HB3.out.size)).trans (below_own gA HB3.out.size (Nat.le_trans HB3.out.size hbA.size)))
   go_wp2_with (first
    | (refine wpList_store_row rfl 115 (.tmp 10) (.tmp 23) rfl w3.heap.size form0 rfl rfl 115 form0 hoA (by kernel_rfl) rfl (by simp [Value.oneCell']) ?_)
    | (refine wpList_store_row rfl 120 (.tmp 8) (.tmp 28) rfl (w.heap.size+1) sheet0 rfl rfl 120 sheet0 hqA (by kernel_rfl) rfl (by simp [Value.oneCell']) ?_))
   show bodyPost _ _ _ _ _ (((w3.alloc (.cells form0 115)).setRow w3.heap.size form0).setRow (w.heap.size+1) sheet0)
   have HqA:=hid hqA
   clear hoA hqA gA hbA
   generalize (w3.alloc _).setRow _ _=w4 at *
   have HoF:=hid (setRow_heap w4 (w.heap.size+1) _ sheet0 120 (0,0) HqA.out)
   have HBF:=hid (HBW.out.trans (below_own (setRow_grown w4 (w.heap.size+1) sheet0) (by omega) HBW.out.size))
   generalize w4.setRow _ _=WF at *
   exact bodyPost_ret (v:=.tuple #[.agg sheet0,.int .i64 9]) (results_ct (p:=8) (q:=9) rfl _ _ _ _ _ rfl rfl (run_loadVar_row (P:=Tryz.prog) WF (w.heap.size+1) 120 120 sheet0 (0,0) _ HoF.out Tryz.underlying120 rfl (by kernel_rfl))) rfl ⟨f0,(fun S h=>by rw [HS.out] at h;simp at h),HBF.out,.inl ⟨9,sheet0,HS.out,by decide,rfl,sheet0_one,rfl⟩⟩
  ·have hok:=(formAt_ok hf).1
   obtain ⟨hl1,hl2,hl3⟩:=hok.lens
   have hsh:=hok.short
   have hah:(aheadF f).length≤65000:=by
    have h1:=(ahead_drop f).2.2
    have h2:=(file_facts hok rfl).len
    omega
   have hnon:f.nonce.length≤1000:=by rw [hok.nonce];decide
   have hbd:f.body.length≤maxLen:=Nat.le_trans hl2 (by decide)
   have hft:f.footer.length≤maxLen:=Nat.le_trans hl3 (by decide)
   have HTO:Hid (f.told=true→∀ w',LiesK w' ra r→Calls Tryz.prog 99 #[.agg (formC f),strB pre,.slice ra r.length rcap,.bool trust] w' (SheetAns (toldF f (hasNumB r (f.foot:Int)) (openF (secretB r (f.foot:Int)) f.nonce (footExtF pre f) f.body) trust) f w')):=fun ht w' h=>readTold_any f pre ra rcap r trust w' ht hah hft hp' hnon hbd Hr.out hrm h
   have HHI:Hid (f.told=false→∀ w',LiesK w' ra r→Calls Tryz.prog 100 #[.agg (formC f),strB pre,.slice ra r.length rcap] w' (SheetAns (hideF f (hasNumB r (f.foot:Int)) (openF (secretB r (f.foot:Int)) f.nonce (footExtF pre f) f.body)) f w')):=fun ht w' h=>readHidden_any f pre ra rcap r w' ht hah hp' (by rw [hok.none_ ht];decide) (by
    have:=bound_len pre (if f.told=true then 83 else 70) 0 0 0 hp'
    unfold footExtF
    rw [List.length_append,hok.none_ ht]
    simp only [List.length_nil]
    omega) hnon hbd Hr.out hrm h
   have HB3:=hid (HB2.out.trans (hb3.mono HB2.out.size))
   have Hq3:=hid (heap_later hb3 Hq2.out)
   have HF:=hid hf
   have HNO:Hid (f.told=false→f.footer=[]):=hok.none_
   clear hb3 hf hok hl1 hl2 hl3 hsh hah hnon hbd hft HBW
   obtain ⟨hbA,hlA,_,hoA⟩:=boxedW w3 form0 115
   have hqlt:=(Array.getElem?_eq_some_iff.1 Hq3.out).1
   have gA:=setRow_grown (w3.alloc (.cells form0 115)) w3.heap.size (formC f)
   have oA:=setRow_heap (w3.alloc (.cells form0 115)) w3.heap.size _ (formC f) 115 (0,0) hoA
   have hqA:=grown_keeps gA (heap_later hbA Hq3.out) (by omega)
   have x1:((w3.alloc (.cells form0 115)).setRow w3.heap.size (formC f)).cell? ⟨w3.heap.size,1,none⟩=some (.bool f.told):=by rw [cell_of_heap oA];rfl
   have HBA:=hid ((HB3.out.trans (hbA.mono HB3.out.size)).trans (below_own gA HB3.out.size (Nat.le_trans HB3.out.size hbA.size)))
   have hone0:=formC_one f
   have HLA:=hid (Hl.out.later HBA.out)
   have hFV:formV f=.agg (formC f):=rfl
   rw [hFV]
   clear hFV
   have hFi:(Tryz.prog.info? 115).map (·.size)=some (formC f).size:=by kernel_rfl
   have hFz:form0.size=(formC f).size:=rfl
   generalize formC f=FC at *
   cases ht:f.told
   case' true =>
    rw [ht] at x1
    have HSF:Hid (sheetF file pre r trust=toldF f (hasNumB r (f.foot:Int)) (openF (secretB r (f.foot:Int)) f.nonce (footExtF pre f) f.body) trust):=by
     show _=_
     unfold sheetF toldF
     rw [if_neg (by omega),if_neg (by rw [Hr.out];decide)]
     simp only [HF.out,ht,if_true]
     unfold footExtF
     rw [ht]
     rfl
    have HCALL:=hid (HTO.out ht)
   case' false =>
    rw [ht] at x1
    have HSF:Hid (sheetF file pre r trust=hideF f (hasNumB r (f.foot:Int)) (openF (secretB r (f.foot:Int)) f.nonce (footExtF pre f) f.body)):=by
     show _=_
     unfold sheetF hideF
     rw [if_neg (by omega),if_neg (by rw [Hr.out];decide)]
     simp only [HF.out,ht,Bool.false_eq_true,if_false]
     unfold footExtF
     rw [ht,HNO.out ht]
     simp only [Bool.false_eq_true,if_false,List.append_nil]
     rfl
    have HCALL:=hid (HHI.out ht)
   all_goals
    clear ht
    go_wp2_with (first
     | (refine wpList_store_row rfl 115 (.tmp 10) (.tmp 23) rfl w3.heap.size FC rfl rfl 115 form0 hoA hFi hFz hone0 ?_)
     | (refine wpList_load_row rfl 115 (.tmp 10) rfl w3.heap.size rfl 115 FC (0,0) _ oA Tryz.underlying115 rfl hFi ?_))
    show Calls _ _ _ ((w3.alloc (.cells form0 115)).setRow w3.heap.size FC) _
    have HqA:=hid hqA
    clear hoA hqA gA hbA oA x1
    generalize (w3.alloc _).setRow _ _=w4 at *
    refine (HCALL.out w4 HLA.out).mono ?_
   next =>
    rintro e w5 ⟨hb5,⟨err,C,hres,hne,hC,hC1,rfl⟩|⟨S,cv,pv,Kb,V,Qp,Qm,Pv,hres,rfl,hin⟩⟩
    ·have HR:=hid (HSF.out.trans hres)
     have HB5:=hid (HBA.out.trans (hb5.mono HBA.out.size))
     have Hq5:=hid (heap_later hb5 HqA.out)
     have hinf:(Tryz.prog.info? 120).map (·.size)=some C.size:=by rw [hC];kernel_rfl
     have hsz0:sheet0.size=C.size:=by rw [hC];rfl
     have HC:=hid hC
     have Hne:=hid hne
     clear hb5 hres hC hne
     go_wp2_with (refine wpList_store_row rfl 120 (.tmp 8) (.tmp 43) rfl (w.heap.size+1) C rfl rfl 120 sheet0 Hq5.out hinf hsz0 hC1 ?_)
     have HoF:=hid (setRow_heap w5 (w.heap.size+1) _ C 120 (0,0) Hq5.out)
     have HBF:=hid (HB5.out.trans (below_own (setRow_grown w5 (w.heap.size+1) C) (by omega) HB5.out.size))
     generalize w5.setRow _ _=WF at *
     exact bodyPost_ret (v:=.tuple #[.agg C,.int .i64 err]) (results_ct (p:=8) (q:=9) rfl _ _ _ _ _ rfl rfl (run_loadVar_row (P:=Tryz.prog) WF (w.heap.size+1) 120 120 C (0,0) _ HoF.out Tryz.underlying120 rfl hinf)) rfl ⟨f,(fun _ _=>HF.out),HBF.out,.inl ⟨err,C,HR.out,Hne.out,HC.out,hC1,rfl⟩⟩
    ·have HR:=hid (HSF.out.trans hres)
     have HB5:=hid (HBA.out.trans (hb5.mono HBA.out.size))
     have Hq5:=hid (heap_later hb5 HqA.out)
     obtain ⟨_,hsz,hone⟩:=hin.one
     have HIN:=hid (hin.lower (b:=w.heap.size) HBA.out.size)
     clear hb5 hres hin
     generalize hCC:sheetC S f cv pv Kb=CC at *
     have HCC:=hid hCC
     clear hCC
     have hinf:(Tryz.prog.info? 120).map (·.size)=some CC.size:=by rw [hsz];kernel_rfl
     have hsz0:sheet0.size=CC.size:=by rw [hsz];rfl
     clear hsz
     go_wp2_with (refine wpList_store_row rfl 120 (.tmp 8) (.tmp 43) rfl (w.heap.size+1) CC rfl rfl 120 sheet0 Hq5.out hinf hsz0 hone ?_)
     have HoF:=hid (setRow_heap w5 (w.heap.size+1) _ CC 120 (0,0) Hq5.out)
     have HBF:=hid (HB5.out.trans (below_own (setRow_grown w5 (w.heap.size+1) CC) (by omega) HB5.out.size))
     have HIF:=hid (HIN.out.grown (setRow_grown w5 (w.heap.size+1) CC) Hq5.out (by decide) (by decide) (by decide) (by decide))
     generalize w5.setRow _ _=WF at *
     exact bodyPost_ret (v:=.tuple #[.agg CC,.int .i64 0]) (results_ct (p:=8) (q:=9) rfl _ _ _ _ _ rfl rfl (run_loadVar_row (P:=Tryz.prog) WF (w.heap.size+1) 120 120 CC (0,0) _ HoF.out Tryz.underlying120 rfl hinf)) rfl ⟨f,(fun _ _=>HF.out),HBF.out,.inr ⟨S,cv,pv,Kb,V,Qp,Qm,Pv,HR.out,by rw [HCC.out],by rw [HCC.out];exact HIF.out⟩⟩
   next =>
    rintro e w5 ⟨hb5,⟨err,C,hres,hne,hC,hC1,rfl⟩|⟨S,cv,pv,Kb,V,Qp,Qm,Pv,hres,rfl,hin⟩⟩
    ·have HR:=hid (HSF.out.trans hres)
     have HB5:=hid (HBA.out.trans (hb5.mono HBA.out.size))
     have Hq5:=hid (heap_later hb5 HqA.out)
     have hinf:(Tryz.prog.info? 120).map (·.size)=some C.size:=by rw [hC];kernel_rfl
     have hsz0:sheet0.size=C.size:=by rw [hC];rfl
     have HC:=hid hC
     have Hne:=hid hne
     clear hb5 hres hC hne
     go_wp2_with (refine wpList_store_row rfl 120 (.tmp 8) (.tmp 37) rfl (w.heap.size+1) C rfl rfl 120 sheet0 Hq5.out hinf hsz0 hC1 ?_)
     have HoF:=hid (setRow_heap w5 (w.heap.size+1) _ C 120 (0,0) Hq5.out)
     have HBF:=hid (HB5.out.trans (below_own (setRow_grown w5 (w.heap.size+1) C) (by omega) HB5.out.size))
     generalize w5.setRow _ _=WF at *
     exact bodyPost_ret (v:=.tuple #[.agg C,.int .i64 err]) (results_ct (p:=8) (q:=9) rfl _ _ _ _ _ rfl rfl (run_loadVar_row (P:=Tryz.prog) WF (w.heap.size+1) 120 120 C (0,0) _ HoF.out Tryz.underlying120 rfl hinf)) rfl ⟨f,(fun _ _=>HF.out),HBF.out,.inl ⟨err,C,HR.out,Hne.out,HC.out,hC1,rfl⟩⟩
    ·have HR:=hid (HSF.out.trans hres)
     have HB5:=hid (HBA.out.trans (hb5.mono HBA.out.size))
     have Hq5:=hid (heap_later hb5 HqA.out)
     obtain ⟨_,hsz,hone⟩:=hin.one
     have HIN:=hid (hin.lower (b:=w.heap.size) HBA.out.size)
     clear hb5 hres hin
     generalize hCC:sheetC S f cv pv Kb=CC at *
     have HCC:=hid hCC
     clear hCC
     have hinf:(Tryz.prog.info? 120).map (·.size)=some CC.size:=by rw [hsz];kernel_rfl
     have hsz0:sheet0.size=CC.size:=by rw [hsz];rfl
     clear hsz
     go_wp2_with (refine wpList_store_row rfl 120 (.tmp 8) (.tmp 37) rfl (w.heap.size+1) CC rfl rfl 120 sheet0 Hq5.out hinf hsz0 hone ?_)
     have HoF:=hid (setRow_heap w5 (w.heap.size+1) _ CC 120 (0,0) Hq5.out)
     have HBF:=hid (HB5.out.trans (below_own (setRow_grown w5 (w.heap.size+1) CC) (by omega) HB5.out.size))
     have HIF:=hid (HIN.out.grown (setRow_grown w5 (w.heap.size+1) CC) Hq5.out (by decide) (by decide) (by decide) (by decide))
     generalize w5.setRow _ _=WF at *
     exact bodyPost_ret (v:=.tuple #[.agg CC,.int .i64 0]) (results_ct (p:=8) (q:=9) rfl _ _ _ _ _ rfl rfl (run_loadVar_row (P:=Tryz.prog) WF (w.heap.size+1) 120 120 CC (0,0) _ HoF.out Tryz.underlying120 rfl hinf)) rfl ⟨f,(fun _ _=>HF.out),HBF.out,.inr ⟨S,cv,pv,Kb,V,Qp,Qm,Pv,HR.out,by rw [HCC.out],by rw [HCC.out];exact HIF.out⟩⟩
end
section
def PlainX (O:Option (List UInt8)) (w:World) (e:Ending) (w':World):Prop :=
 Below w.heap.size w w'∧((O=none∧e=gaveUp)∨∃ p,O=some p∧e=.returned (strB p))
def plainS (sec pre:List UInt8) (key:Int) (s:UInt8) (g c k:Nat) (m:ModF):Option (List UInt8) :=
 if key=0 then some m.plain else openF sec m.nonce (boundB pre s g c k) m.body
theorem plainM_any (sb:UInt8) (g c k:Nat) (key:Int) (m:ModF) (sec pre:List UInt8) (w:World) (hm:ModOk key m) (hg:g≤65535) (hc:c≤65535) (hk:k≤65535) (hpre:pre.length≤20) (hsec:sec.length≤1000) :
  Calls Tryz.prog 233 #[.agg #[strB [sb],.int .i64 (g:Int),.int .i64 (c:Int),.int .i64 (k:Int),strB (modNB key m).1,strB (modNB key m).2],strB sec,strB pre] w (PlainX (plainS sec pre key sb g c k m) w):=by
 have HEX:Hid (∀ w':World,Calls Tryz.prog 171 #[.agg #[strB [sb],.int .i64 (g:Int),.int .i64 (c:Int),.int .i64 (k:Int)],strB pre,.slice none 0 0] w' fun e w2=>e=.returned (strB (boundB pre sb g c k))∧Below w'.heap.size w' w2):=by
  intro w'
  have:=extra_any sb g c k pre (.slice none 0 0) [] w' hg hc hk hpre (by decide) (joins_none w')
  rw [List.append_nil] at this
  exact this
 have hbl:=bound_len pre sb g c k hpre
 rcases hm with ⟨rfl,h1,h2,h3⟩|⟨hk0,h1,h2,h3,h4⟩
 ·have HP:Hid (plainS sec pre 0 sb g c k m=some m.plain):=by show _=_;unfold plainS;rw [if_pos rfl]
  have e1:(modNB 0 m).1=[]:=h1
  have e2:(modNB 0 m).2=m.plain:=rfl
  rw [e1,e2]
  clear e1 e2 hbl h1 h2 h3 HEX hg hc hk hpre hsec
  generalize m.plain=T at *
  obtain ⟨hb0,hl0,hx0,ho0⟩:=boxedW w #[strB [sb],.int .i64 (g:Int),.int .i64 (c:Int),.int .i64 (k:Int),strB [],strB T] 113
  obtain ⟨⟨x0,x1,x2,x3,x4,x5⟩,_⟩:=cells6 ho0
  go_enter Tryz.func233,Tryz.ntmps233
  go_wp2
  go_ret
  exact ⟨hb0,.inr ⟨T,HP.out,rfl⟩⟩
 ·have HP:Hid (plainS sec pre key sb g c k m=openF sec m.nonce (boundB pre sb g c k) m.body):=by show _=_;unfold plainS;rw [if_neg hk0]
  have e1:(modNB key m).1=m.nonce:=rfl
  have e2:(modNB key m).2=m.body:=by unfold modNB;rw [if_neg hk0]
  rw [e1,e2]
  have HPL:=hid (fun w'=>plainP_any sec m.nonce (boundB pre sb g c k) m.body w' hsec (by omega) (by omega) (by unfold maxLen;omega))
  have hne:m.nonce.isEmpty=false:=by
   cases h:m.nonce with
   | nil=>rw [h] at h2;simp at h2
   | cons=>rfl
  clear e1 e2 h1 h2 h3 h4 hg hc hk hpre hsec hbl
  generalize openF sec m.nonce (boundB pre sb g c k) m.body=O at *
  generalize boundB pre sb g c k=ext at *
  generalize m.nonce=NN at *
  generalize m.body=BB at *
  rcases O with _|T
  all_goals
   simp only [openV] at HPL
   obtain ⟨hb0,hl0,_,ho0⟩:=boxedW w #[strB [sb],.int .i64 (g:Int),.int .i64 (c:Int),.int .i64 (k:Int),strB NN,strB BB] 113
   obtain ⟨⟨x0,x1,x2,x3,x4,x5⟩,_⟩:=cells6 ho0
   go_enter Tryz.func233,Tryz.ntmps233
   go_wp2_with fail
   clear hne x0 x1 x2 x3 x4 x5
   generalize w.alloc _=W0 at *
   have HB0:=hid hb0
   have Ho0:=hid ho0
   have HC0:=hid (cells6 ho0).1
   clear hb0 ho0
   go_region_held3 (fun w'=>w'.cell? ⟨w.heap.size,0,none⟩=some (strB [sb])∧w'.cell? ⟨w.heap.size,1,none⟩=some (.int .i64 (g:Int))∧w'.cell? ⟨w.heap.size,2,none⟩=some (.int .i64 (c:Int))∧w'.cell? ⟨w.heap.size,3,none⟩=some (.int .i64 (k:Int))∧w'.cell? ⟨w.heap.size,4,none⟩=some (strB NN)∧w'.cell? ⟨w.heap.size,5,none⟩=some (strB BB))
    (first|with_reducible exact HC2.out|with_reducible exact HC1.out|exact HC0.out)
    (first
     | (go_at_call 171;refine (HEX.out _).mono ?_;rintro e w1 ⟨rfl,hb1⟩;have hb1':=below_undrew hb1;have HC1:=hid (cells6 (heap_later hb1' Ho0.out)).1)
     | (go_at_call 180;refine (HPL.out _).mono ?_;rintro e w2 ⟨rfl,hb2⟩;have HC2:=hid (cells6 (heap_later (hb1'.trans (hb2.mono hb1'.size)) Ho0.out)).1))
   have HB2:=hid (HB0.out.trans ((hb1'.trans (hb2.mono hb1'.size)).mono HB0.out.size))
   clear hb1 hb1' hb2
   go_wp2_with fail
  ·refine (need_no w2).mono ?_
   rintro e w3 ⟨rfl,rfl⟩
   go_wp2
   exact ⟨rfl,HB2.out,.inl ⟨HP.out,rfl⟩⟩
  ·refine (need_yes w2).mono ?_
   rintro e w3 ⟨rfl,rfl⟩
   go_wp2
   go_ret
   exact ⟨HB2.out,.inr ⟨T,HP.out,rfl⟩⟩
end
section
theorem flatten_at {s:Nat}:∀ {L:List (List Value)} (h:∀ x ∈ L,x.length=s) {k j:Nat} (hj:j < s),L.flatten[k*s+j]?=(L[k]?).bind (·[j]?):=by
 intro L
 induction L with
 | nil=>intro h k j hj;simp
 | cons x L ih =>
  intro h k j hj
  have hx:=h x (by simp)
  cases k with
  | zero =>
   simp only [List.flatten_cons,Nat.zero_mul,Nat.zero_add]
   rw [List.getElem?_append_left (by omega)]
   simp
  | succ k =>
   simp only [List.flatten_cons]
   rw [List.getElem?_append_right (by rw [hx,Nat.succ_mul];omega),hx,show (k+1)*s+j - s=k*s+j by rw [Nat.succ_mul];omega,ih (fun y hy=>h y (List.mem_cons_of_mem _ hy)) hj]
   simp
theorem piecesC_at {key:Int} {g c:Nat} {mp:List ModF} {k:Nat} {m:ModF} (hk:mp[k]?=some m) {j:Nat} (hj:j < 6):(piecesC key g c mp)[k*6+j]?=(pieceC key g c k m)[j]?:=by
 unfold piecesC
 rw [flatten_at (s:=6) _ hj]
 ·rw [List.getElem?_mapIdx,hk];rfl
 ·intro x hx
  rw [List.mem_mapIdx] at hx
  obtain ⟨i,hi,rfl⟩:=hx
  rfl
theorem pieces_at {w:World} {base n:Nat} {key:Int} {g c:Nat} {mp:List ModF} {k:Nat} {m:ModF} {v:Value} (h:w.ownsRow base 113 6 v n (piecesC key g c mp)) (hk:mp[k]?=some m) (hkn:k < n) :
  ∃ b cap,v=.slice (some ⟨b,0,none⟩) n cap∧b < w.heap.size∧w.cell? ⟨b,k*6,none⟩=some (strB [80])∧w.cell? ⟨b,k*6+1,none⟩=some (.int .i64 (g:Int))∧w.cell? ⟨b,k*6+2,none⟩=some (.int .i64 (c:Int))∧w.cell? ⟨b,k*6+3,none⟩=some (.int .i64 (k:Int))∧w.cell? ⟨b,k*6+4,none⟩=some (strB (modNB key m).1)∧w.cell? ⟨b,k*6+5,none⟩=some (strB (modNB key m).2):=by
 rcases h.2 with ⟨rfl,h1⟩|⟨b,cap,cur,rfl,_⟩
 ·omega
 ·refine ⟨b,cap,rfl,(h.lt b rfl).2,?_,?_,?_,?_,?_,?_⟩
  ·rw [h.cellAt _ (by omega)];exact piecesC_at (j:=0) hk (by omega)
  ·rw [h.cellAt _ (by omega)];exact piecesC_at (j:=1) hk (by omega)
  ·rw [h.cellAt _ (by omega)];exact piecesC_at (j:=2) hk (by omega)
  ·rw [h.cellAt _ (by omega)];exact piecesC_at (j:=3) hk (by omega)
  ·rw [h.cellAt _ (by omega)];exact piecesC_at (j:=4) hk (by omega)
  ·rw [h.cellAt _ (by omega)];exact piecesC_at (j:=5) hk (by omega)
theorem stepF80 (pre:List UInt8) (r:List KeyB) (kind key:Int) (x:List CellB) (g c k st many:Nat) (m:ModF):stepF pre r kind key x ⟨80,g,c,k,st,many⟩ m=match plainS (secretB r key) pre key 80 g c k m with
  | none=>none
  | some p=>match unpageB kind p with
   | none=>none
   | some l=>if l.length=many then some (x++l) else none:=by
 unfold stepF
 have:plainF pre r key ⟨80,g,c,k,st,many⟩ m=plainS (secretB r key) pre key 80 g c k m:=rfl
 rw [this]
 cases plainS (secretB r key) pre key 80 g c k m<;>rfl
theorem pagesF_step (pre:List UInt8) (r:List KeyB) (kind key:Int) {P g c st n k:Nat} {mp:List ModF} {m:ModF} (hk:mp[k]?=some m):cellsF pre r kind key c (some []) (pageSpots P g c st n (k+1)) (mp.take (k+1))=(cellsF pre r kind key c (some []) (pageSpots P g c st n k) (mp.take k)).bind fun x=>stepF pre r kind key x ⟨80,g,c,k,st+k*P,partN n P k⟩ m:=by
 have hlt:=(List.getElem?_eq_some_iff.1 hk).1
 have ht:mp.take (k+1)=mp.take k++[m]:=by rw [List.take_add_one,hk];rfl
 rw [page_succ,ht,cellsF_append _ _ _ _ _ _ _ _ _ _ (by simp [pageSpots];omega)]
 cases cellsF pre r kind key c (some []) (pageSpots P g c st n k) (mp.take k) with
 | none=>rw [cellsF_none];rfl
 | some x=>exact cellsF_one pre r kind key ⟨80,g,c,k,st+k*P,partN n P k⟩ m x
theorem pagesF_none (pre:List UInt8) (r:List KeyB) (kind key:Int) {P g c st n k:Nat} {mp:List ModF} (h:cellsF pre r kind key c (some []) (pageSpots P g c st n k) (mp.take k)=none):∀ j,k+j≤mp.length→cellsF pre r kind key c (some []) (pageSpots P g c st n (k+j)) (mp.take (k+j))=none:=by
 intro j
 induction j with
 | zero=>intro _;exact h
 | succ j ih =>
  intro hl
  have hm:mp[k+j]?=some mp[k+j]:=List.getElem?_eq_getElem (by omega)
  rw [show k+(j+1)=k+j+1 by omega,pagesF_step pre r kind key hm,ih (by omega)]
  rfl
theorem plainS_len {sec pre:List UInt8} {key:Int} {s:UInt8} {g c k:Nat} {m:ModF} {p:List UInt8} (hm:ModOk key m) (h:plainS sec pre key s g c k m=some p):p.length≤65535:=by
 unfold plainS at h
 rcases hm with ⟨rfl,h1,h2,h3⟩|⟨hk0,h1,h2,h3,h4⟩
 ·rw [if_pos rfl] at h;cases h;exact h3
 ·rw [if_neg hk0] at h
  obtain ⟨e,h5⟩:=openF_some h
  have:=congrArg List.length e
  rw [bodyB_length] at this
  omega
def CellsX (O:Option (List CellB)) (w:World) (e:Ending) (w':World):Prop :=
 Below w.heap.size w w'∧((O=none∧e=gaveUp)∨∃ l v,O=some l∧e=.returned v∧(∀ c ∈ l,smallC c)∧w'.ownsRow w.heap.size 58 3 v l.length (cellsC l))
theorem cells_small {kind:Int} {p:List UInt8} {l:List CellB} (h:unpageB kind p=some l):∀ c ∈ l,smallC c:=by
 obtain ⟨h1,_,h3⟩:=unpage_some h
 intro c hc
 refine ⟨(h3 c hc).1,(h3 c hc).2,?_⟩
 simp only [cellsOkB,Bool.and_eq_true,List.all_eq_true] at h1
 have:=h1.2 c hc
 unfold fitsB at this
 split at this
 ·simp only [Bool.and_eq_true,List.isEmpty_iff] at this
  rw [this.2];decide
 ·split at this
  ·rw [List.isEmpty_iff] at this
   rw [this];decide
  ·simp only [Bool.and_eq_true,decide_eq_true_eq] at this
   exact this.2
theorem chunkCells_any (SC:Array Value) (pre:List UInt8) (r:List KeyB) (kind key:Int) (R G P g c:Nat) (mp:List ModF) (mm:ModF) (base:Nat) (pv:Value) (w:World)
  (h12:SC[12]?=some (.int .i64 (P:Int))) (hP1:1≤P) (hP:P≤60) (hR:partN R G g≤60) (hkd:kind=0∨kind=1) (hg:g≤65535) (hc:c≤65535) (hpre:pre.length≤20) (hsec:(secretB r key).length≤1000)
  (hml:mp.length=cntN (partN R G g) P) (hmok:∀ m ∈ mp,ModOk key m) (hrow:w.ownsRow base 113 6 pv mp.length (piecesC key g c mp)) :
  Calls Tryz.prog 232 #[.agg SC,.int .i64 kind,chunkV (partN R G g) g c key pv mm,strB (secretB r key),strB pre] w (CellsX (cellsF pre r kind key c (some []) (chunkPages R G P g c) mp) w):=by
 obtain ⟨i1,hi1,hy0,hy1,hy2⟩:=info_parts Tryz.infoCell
 have HPL:Hid (∀ (k:Nat) (m:ModF) (w':World),mp[k]?=some m→k≤60→Calls Tryz.prog 233 #[.agg #[strB [80],.int .i64 (g:Int),.int .i64 (c:Int),.int .i64 (k:Int),strB (modNB key m).1,strB (modNB key m).2],strB (secretB r key),strB pre] w' (PlainX (plainS (secretB r key) pre key 80 g c k m) w')):=fun k m w' hk h60=>plainM_any 80 g c k key m (secretB r key) pre w' (hmok m (List.mem_of_getElem? hk)) hg hc (by omega) hpre hsec
 have HLN:Hid (∀ (k:Nat) (m:ModF) (p:List UInt8),mp[k]?=some m→plainS (secretB r key) pre key 80 g c k m=some p→p.length≤maxLen):=fun k m p hk h=>Nat.le_trans (plainS_len (hmok m (List.mem_of_getElem? hk)) h) (by decide)
 have HUN:Hid (∀ (p:List UInt8) (w':World),p.length≤maxLen→Calls Tryz.prog 70 #[.int .i64 kind,strB p] w' (Unpaged kind p w')):=fun p w' h=>cells_does kind p w' hkd h
 have hCN:cntN (partN R G g) P≤60:=Nat.le_trans (cnt_le hP1) hR
 have HCT:=hid (fun w':World=>cut_any (partN R G g) P w' (by omega) hP1 (by omega))
 have HALL:Hid (chunkPages R G P g c=pageSpots P g c (g*G) (partN R G g) mp.length):=by show _=_;unfold chunkPages;rw [hml]
 have HPP:Hid (∀ k,k < mp.length→0 < partN (partN R G g) P k∧k*P+partN (partN R G g) P k=min (k*P+P) (partN R G g)∧partN (partN R G g) P k≤60):=fun k hk=>by
  rw [hml] at hk
  have h1:=(cnt_lt hP1).1 hk
  have h2:=(part_pos (n:=partN R G g) (i:=k) hP1).2 h1
  have h3:=part_end (partN R G g) P k h1
  exact ⟨h2,h3,by omega⟩
 have hkP:∀ k,k≤60→k*P≤3600:=fun k hk=>by
  have:=Nat.mul_le_mul hk hP
  omega
 have HKP:=hid hkP
 have HSZ:Hid (SC.size≤100000∨True):=.inr trivial
 generalize hse:secretB r key=sec at *
 have HSE:=hid hse
 clear hse
 rw [← hml] at HCT hCN
 generalize partN R G g=rows at *
 have Hrow:=hid hrow
 have H12:=hid h12
 clear hrow hmok hsec hpre hg hc hkd hml h12 hkP
 obtain ⟨hb0,hl0,ho0,hq0⟩:=boxes2 w SC 120 #[.int .i64 (rows:Int),pv,strB [77],.int .i64 (g:Int),.int .i64 (c:Int),.int .i64 0,strB (modNB key mm).1,strB (modNB key mm).2] 261
 have x12:((w.alloc (.cells SC 120)).alloc (.cells #[.int .i64 (rows:Int),pv,strB [77],.int .i64 (g:Int),.int .i64 (c:Int),.int .i64 0,strB (modNB key mm).1,strB (modNB key mm).2] 261)).cell? ⟨w.heap.size,12,none⟩=some (.int .i64 (P:Int)):=by rw [cell_of_heap ho0];exact H12.out
 obtain ⟨y0,y1,y2,y3,y4,y5,y6,y7⟩:=(cells8 hq0).1
 go_enter Tryz.func232,Tryz.ntmps232
 go_wp2_with fail
 clear x12 y0 y1 y2 y3 y4 y5 y6 y7
 generalize (w.alloc _).alloc _=W0 at *
 have HB0:=hid hb0
 have Hq0:=hid hq0
 have hz0:=hb0.size
 clear hb0 hq0 ho0
 refine (HCT.out _).mono ?_
 rintro e w1 ⟨sv,rfl,hsp,hb1⟩
 obtain ⟨sa,sc,rfl⟩:=own_slice hsp
 have HB1:=hid (HB0.out.trans (hb1.mono HB0.out.size))
 have Hq1:=hid (heap_later hb1 Hq0.out)
 have Hsp:=hid (ownsRow_base hsp (b':=w.heap.size) hz0)
 have hl1:=hb1.size
 clear hb1 hsp
 go_wp2
 go_loopw [11,23] (fun v i wr=>∃ (k:Nat) (l:List CellB),k≤mp.length∧i=.int .i64 (k:Int)∧cellsF pre r kind key c (some []) (pageSpots P g c (g*G) rows k) (mp.take k)=some l∧l.length≤k*60∧(∀ x ∈ l,smallC x)∧wr.ownsRow w.heap.size 58 3 v l.length (cellsC l)∧wr.heap[w.heap.size+1]?=some (.cells #[.int .i64 (rows:Int),pv,strB [77],.int .i64 (g:Int),.int .i64 (c:Int),.int .i64 0,strB (modNB key mm).1,strB (modNB key mm).2] 261 (0,0))∧wr.ownsRow w.heap.size 290 2 (.slice sa mp.length sc) mp.length (spansC rows P mp.length)∧Below w.heap.size w wr) (fun _ i _=>mp.length - (intOf i).toNat)
 case atStart=>exact ⟨0,[],Nat.zero_le _,rfl,rfl,Nat.zero_le _,(by intro x hx;cases hx),World.ownsRow_nil _ _ _ _,Hq1.out,Hsp.out,HB1.out⟩
 case round =>
  obtain ⟨k,l,hkC,rfl,hcf,hll,hsm,hown,hq,hsp,hB⟩:=hrel
  have Hcf:=hid hcf
  have Hsm:=hid hsm
  have Hown:=hid hown
  have Hq:=hid hq
  have Hs:=hid hsp
  have HB:=hid hB
  have hwz:=hB.size
  obtain ⟨va,vc,rfl⟩:=own_slice hown
  clear hcf hsm hown hq hsp hB
  by_cases hlt:k < mp.length
  ·have hiM:(k:Int) < (mp.length:Int):=by omega
   obtain ⟨m,hm⟩:∃ m,mp[k]?=some m:=⟨mp[k],List.getElem?_eq_getElem hlt⟩
   obtain ⟨sg,rfl,hsg,s1,s2⟩:=spans_at Hs.out hlt
   obtain ⟨pb,pc,rfl,hpb,p0,p1,p2,p3,p4,p5⟩:=pieces_at (own_laterX Hrow.out HB.out) hm hlt
   obtain ⟨hpp,hpe,hp60⟩:=HPP.out k hlt
   have hkp:=HKP.out k (by omega)
   have HPLk:=hid (fun w'=>HPL.out k m w' hm (by omega))
   have HLNk:=hid (fun p=>HLN.out k m p hm)
   have HSTEP:Hid (cellsF pre r kind key c (some []) (pageSpots P g c (g*G) rows (k+1)) (mp.take (k+1))=match plainS sec pre key 80 g c k m with
    | none=>none
    | some p=>match unpageB kind p with
     | none=>none
     | some l2=>if l2.length=partN rows P k then some (l++l2) else none):=by
    show _=_
    rw [pagesF_step pre r kind key hm,Hcf.out]
    show stepF _ _ _ _ _ _ _=_
    rw [stepF80,HSE.out]
   have HNONE:Hid (cellsF pre r kind key c (some []) (pageSpots P g c (g*G) rows (k+1)) (mp.take (k+1))=none→cellsF pre r kind key c (some []) (chunkPages R G P g c) mp=none):=fun h=>by
    have:=pagesF_none pre r kind key h (mp.length - (k+1)) (by omega)
    rw [show k+1+(mp.length - (k+1))=mp.length by omega,List.take_length] at this
    rw [HALL.out];exact this
   rw [← hpe] at s2
   have Hm:=hid hm
   clear hpe HPL HLN hm
   generalize hkp0:k*P=kP at *
   generalize hpn0:partN rows P k=pn at *
   generalize hps0:plainS sec pre key 80 g c k m=PS at *
   clear hkp0 hpn0 hps0
   generalize (modNB key m).1=n1 at *
   generalize (modNB key m).2=n2 at *
   obtain ⟨hbx,hsx,_,hhx⟩:=boxedW wr #[.int .i64 (kP:Int),.int .i64 ((kP:Int)+(pn:Int))] 290
   have y1:=(cells8 (heap_later hbx Hq.out)).1.2.1
   have q0:=cell_alloc_keep (.cells #[.int .i64 (kP:Int),.int .i64 ((kP:Int)+(pn:Int))] 290) p0
   have q1:=cell_alloc_keep (.cells #[.int .i64 (kP:Int),.int .i64 ((kP:Int)+(pn:Int))] 290) p1
   have q2:=cell_alloc_keep (.cells #[.int .i64 (kP:Int),.int .i64 ((kP:Int)+(pn:Int))] 290) p2
   have q3:=cell_alloc_keep (.cells #[.int .i64 (kP:Int),.int .i64 ((kP:Int)+(pn:Int))] 290) p3
   have q4:=cell_alloc_keep (.cells #[.int .i64 (kP:Int),.int .i64 ((kP:Int)+(pn:Int))] 290) p4
   have q5:=cell_alloc_keep (.cells #[.int .i64 (kP:Int),.int .i64 ((kP:Int)+(pn:Int))] 290) p5
   go_wp2_with fail
   clear y1 q0 q1 q2 q3 q4 q5 p0 p1 p2 p3 p4 p5 s1 s2
   have HBx:=hid hbx
   have Hhx:=hid hhx
   have Hqx:=hid (heap_later hbx Hq.out)
   have Hox:=hid (own_after Hown.out hbx)
   have Hsx:=hid (own_after Hs.out hbx)
   clear hbx hhx
   generalize wr.alloc _=wx at *
   refine (HPLk.out wx).mono ?_
   rintro e w2 ⟨hb2,⟨hn2,rfl⟩|⟨p,hsome,rfl⟩⟩
   ·have HE:Hid (cellsF pre r kind key c (some []) (chunkPages R G P g c) mp=none):=HNONE.out (by rw [HSTEP.out,hn2])
    have HBE:=hid (HB.out.trans ((HBx.out.trans (hb2.mono HBx.out.size)).mono hwz))
    clear hn2 hb2
    go_wp2
    exact ⟨rfl,HBE.out,.inl ⟨HE.out,rfl⟩⟩
   have HB2:=hid (HBx.out.trans (hb2.mono HBx.out.size))
   have Hh2:=hid (heap_later hb2 Hhx.out)
   have Hq2:=hid (heap_later hb2 Hqx.out)
   have Ho2:=hid (own_after Hox.out hb2)
   have Hs2:=hid (own_after Hsx.out hb2)
   have HPS:=hid hsome
   clear hb2 hsome
   go_wp2_with fail
   refine (HUN.out p w2 (HLNk.out p HPS.out)).mono ?_
   rintro e w3 ⟨hb3,⟨rfl,hn3⟩|⟨l2,a2,cap2,rfl,hu,hli⟩⟩
   ·have HE:Hid (cellsF pre r kind key c (some []) (chunkPages R G P g c) mp=none):=HNONE.out (by rw [HSTEP.out,HPS.out];simp only [hn3])
    have HBE:=hid (HB.out.trans ((HB2.out.trans (hb3.mono HB2.out.size)).mono hwz))
    clear hn3 hb3
    go_wp2
    exact ⟨rfl,HBE.out,.inl ⟨HE.out,rfl⟩⟩
   have HB3:=hid (HB2.out.trans (hb3.mono HB2.out.size))
   have Hh3:=hid (heap_later hb3 Hh2.out)
   have Hq3:=hid (heap_later hb3 Hq2.out)
   have Ho3:=hid (own_after Ho2.out hb3)
   have Hs3:=hid (own_after Hs2.out hb3)
   have HU:=hid hu
   have HLI:=hid hli
   clear hb3 hu hli
   obtain ⟨z1,z2⟩:=box2 Hh3.out
   have hl260:l2.length≤60:=by
    have:=(unpage_some HU.out).1
    simp only [cellsOkB,Bool.and_eq_true,decide_eq_true_eq] at this
    exact this.1.2
   go_wp2_with fail
   clear z1 z2
   by_cases hlen:l2.length=pn
   ·have hbq:((l2.length:Int) == (kP:Int)+(pn:Int) - (kP:Int))=true:=by rw [beq_iff_eq];omega
    rw [hbq]
    clear hbq
    refine (need_yes w3).mono ?_
    rintro e w4 ⟨rfl,rfl⟩
    have HSM:Hid (∀ x ∈ l++l2,smallC x):=fun x hx=>by
     rcases List.mem_append.1 hx with h|h
     ·exact Hsm.out x h
     ·exact cells_small HU.out x h
    have HNEW:Hid (cellsF pre r kind key c (some []) (pageSpots P g c (g*G) rows (k+1)) (mp.take (k+1))=some (l++l2)):=by
     show _=_
     rw [HSTEP.out,HPS.out]
     simp only [HU.out,if_pos hlen]
    have hl20:0 < l2.length:=by omega
    clear hlen
    obtain ⟨b2,off2,rfl,hb2lt,hcell⟩:=HLI.out.at_ (List.ne_nil_of_length_pos hl20)
    have HCL:=hid (Lies.cells hcell)
    clear hcell
    have hz4:=HB3.out.size
    go_wp2_with (refine wpList_append_lies _ rfl _ _ _ rfl w.heap.size 58 i1 _ 3 32 Tryz.underlying59 hi1 hy0 hy1 hy2 rfl (by omega) _ l.length (cellsC l) rfl Ho3.out ⟨b2,off2,none⟩ l2.length cap2 (cellsC l2) rfl (cellsC_length l2) HCL.out (cellsC_one l2) hl20 (by unfold maxLen;omega) (by omega) (by omega) _ rfl ?_;intro gg gc w5 hown5 hgr5 hat5 hlt5)
    have HO5:=hid hown5
    have HQ5:=hid (heap_grown_keep hgr5 Ho3.out Hq3.out (by decide))
    have HS5:=hid (Hs3.out.kept hgr5 (own_apart Hs3.out Ho3.out (by decide)))
    have HB5:=hid ((HB.out.trans (HB3.out.mono hwz)).grown hgr5 (by omega) (fun k hk=>(Ho3.out.lt k hk).1))
    clear hown5 hgr5 hat5 hlt5
    go_wp2
    go_roundw
    case rel =>
     refine ⟨k+1,l++l2,by omega,by go_num,HNEW.out,by rw [List.length_append];omega,HSM.out,?_,HQ5.out,HS5.out,HB5.out⟩
     rw [cellsC_append,List.length_append]
     exact HO5.out
    case measure=>simp [intOf];omega
   ·have hbq:((l2.length:Int) == (kP:Int)+(pn:Int) - (kP:Int))=false:=by rw [beq_eq_false_iff_ne];omega
    rw [hbq]
    clear hbq
    refine (need_no w3).mono ?_
    rintro e w4 ⟨rfl,rfl⟩
    have HE:Hid (cellsF pre r kind key c (some []) (chunkPages R G P g c) mp=none):=HNONE.out (by rw [HSTEP.out,HPS.out];simp only [HU.out,if_neg hlen])
    have HBE:=hid (HB.out.trans (HB3.out.mono hwz))
    clear hlen
    go_wp2
    exact ⟨rfl,HBE.out,.inl ⟨HE.out,rfl⟩⟩
  ·have hke:k=mp.length:=by omega
   subst hke
   have HE:Hid (cellsF pre r kind key c (some []) (chunkPages R G P g c) mp=some l):=by
    have:=Hcf.out
    rw [List.take_length] at this
    show _=_
    rw [HALL.out];exact this
   clear hlt
   go_wp2
   go_ret
   exact ⟨HB.out,.inr ⟨l,_,HE.out,rfl,Hsm.out,Hown.out⟩⟩
end
section
structure SheetGo (S:SheetF) (G P base:Nat) (w:World) (SC:Array Value) (cv:Value) (Kb:Nat) (V:Nat→Value) (Qp:Nat→Nat→List ModF) (Qm:Nat→Nat→ModF) (Pv:Nat→Nat→Value):Prop where
 inf:(Tryz.prog.info? 120).map (·.size)=some SC.size
 one:SC.all (·.oneCell')=true
 c12:SC[12]?=some (.int .i64 (P:Int))
 c15:SC[15]?=some cv
 c17:SC[17]?=some (.slice (some ⟨Kb,0,none⟩) S.cols.length S.cols.length)
 cols:w.ownsRow base 61 4 cv S.cols.length (colsC S.cols)
 small:∀ c ∈ S.cols,SmallC c
 kb:w.heap[Kb]?=some (.cells ((List.range S.cols.length).map V).toArray 258 (0,0))
 chunks:∀ i,i < S.cols.length→ColIn S.cols S.rows G P base w i (cntN S.rows G) (V i) Qp Qm Pv
 mods:S.mods=modsTo (fun g c=>Qp g c++[Qm g c]) S.cols.length (cntN S.rows G)
 spots:spotsF S=spotsTo S.rows S.cols.length G P (cntN S.rows G)
 rows:S.rows≤60
 g1:1≤G
 g6:G≤60
 p1:1≤P
 p6:P≤60
 n6:S.cols.length≤6
theorem SheetGo.later {S:SheetF} {G P base:Nat} {w w':World} {SC:Array Value} {cv:Value} {Kb:Nat} {V:Nat→Value} {Qp:Nat→Nat→List ModF} {Qm:Nat→Nat→ModF} {Pv:Nat→Nat→Value} (h:SheetGo S G P base w SC cv Kb V Qp Qm Pv) (hb:Below w.heap.size w w'):SheetGo S G P base w' SC cv Kb V Qp Qm Pv :=
 ⟨h.inf,h.one,h.c12,h.c15,h.c17,own_laterX h.cols hb,h.small,heap_later hb h.kb,fun i hi=>(h.chunks i hi).keep (fun n xs hu=>own_laterX hu hb) (fun u n xs hu=>own_laterX hu hb),h.mods,h.spots,h.rows,h.g1,h.g6,h.p1,h.p6,h.n6⟩
theorem sheetGo {S:SheetF} {f:FormF} {base foot:Nat} {parts footer:List UInt8} {w:World} {v cv pv:Value} {Kb:Nat} {V:Nat→Value} {Qp:Nat→Nat→List ModF} {Qm:Nat→Nat→ModF} {Pv:Nat→Nat→Value} (h:SheetIn S f base w v cv pv Kb V Qp Qm Pv) (hok:SheetOk foot parts footer S) :
  SheetGo S S.plan.group.toNat S.plan.page.toNat base w (sheetC S f cv pv Kb) cv Kb V Qp Qm Pv:=by
 obtain ⟨_,h18,hone⟩:=h.one
 have hp:=hok.plan
 simp only [planOkB,Bool.and_eq_true,decide_eq_true_eq] at hp
 have hh:=hok.heads
 simp only [headsOkB,Bool.and_eq_true,decide_eq_true_eq] at hh
 refine ⟨by rw [h18];kernel_rfl,hone,?_,rfl,rfl,h.cols,h.small,h.kb,h.chunks,h.mods,rfl,hok.rows,by omega,by omega,by omega,by omega,by omega⟩
 show some (Value.int .i64 S.plan.page)=_
 rw [Int.toNat_of_nonneg (by omega)]
theorem chunkRows_at {R G:Nat} {key:Int} {c:Nat} {Qm:Nat→Nat→ModF} {Pv:Nat→Nat→Value} {n k:Nat} (hk:k < n) {j:Nat} (hj:j < 8):(chunkRows R G key c Qm Pv n)[k*8+j]?=(chunkRow R G key c Qm Pv k)[j]?:=by
 unfold chunkRows
 rw [List.flatMap_def,flatten_at (s:=8) _ hj]
 ·rw [List.getElem?_map,List.getElem?_range hk];rfl
 ·intro x hx
  simp only [List.mem_map] at hx
  obtain ⟨i,_,rfl⟩:=hx
  rfl
theorem chunks_at {w:World} {base n:Nat} {R G:Nat} {key:Int} {c:Nat} {Qm:Nat→Nat→ModF} {Pv:Nat→Nat→Value} {k:Nat} {v:Value} (h:w.ownsRow base 261 8 v n (chunkRows R G key c Qm Pv n)) (hk:k < n) :
  ∃ b cap,v=.slice (some ⟨b,0,none⟩) n cap∧b < w.heap.size∧w.cell? ⟨b,k*8,none⟩=some (.int .i64 ((partN R G k:Nat):Int))∧w.cell? ⟨b,k*8+1,none⟩=some (Pv k c)∧w.cell? ⟨b,k*8+2,none⟩=some (strB [77])∧w.cell? ⟨b,k*8+3,none⟩=some (.int .i64 (k:Int))∧w.cell? ⟨b,k*8+4,none⟩=some (.int .i64 (c:Int))∧w.cell? ⟨b,k*8+5,none⟩=some (.int .i64 0)∧w.cell? ⟨b,k*8+6,none⟩=some (strB (modNB key (Qm k c)).1)∧w.cell? ⟨b,k*8+7,none⟩=some (strB (modNB key (Qm k c)).2):=by
 rcases h.2 with ⟨rfl,h1⟩|⟨b,cap,cur,rfl,_⟩
 ·omega
 ·refine ⟨b,cap,rfl,(h.lt b rfl).2,?_,?_,?_,?_,?_,?_,?_,?_⟩
  ·rw [h.cellAt _ (by omega)];exact chunkRows_at (j:=0) hk (by omega)
  ·rw [h.cellAt _ (by omega)];exact chunkRows_at (j:=1) hk (by omega)
  ·rw [h.cellAt _ (by omega)];exact chunkRows_at (j:=2) hk (by omega)
  ·rw [h.cellAt _ (by omega)];exact chunkRows_at (j:=3) hk (by omega)
  ·rw [h.cellAt _ (by omega)];exact chunkRows_at (j:=4) hk (by omega)
  ·rw [h.cellAt _ (by omega)];exact chunkRows_at (j:=5) hk (by omega)
  ·rw [h.cellAt _ (by omega)];exact chunkRows_at (j:=6) hk (by omega)
  ·rw [h.cellAt _ (by omega)];exact chunkRows_at (j:=7) hk (by omega)
theorem colsX_at {t:List ColB} {c:Nat} (hc:c < t.length) {j:Nat} (hj:j < 4):(colsC t)[c*4+j]?=(colC (colAt t c))[j]?:=by
 unfold colsC
 rw [List.flatMap_def,flatten_at (s:=4) _ hj]
 ·rw [List.getElem?_map,List.getElem?_eq_getElem hc]
  simp only [Option.map_some,Option.bind_some]
  rw [colAt_eq hc]
 ·intro x hx
  simp only [List.mem_map] at hx
  obtain ⟨i,_,rfl⟩:=hx
  rfl
theorem cols_at {w:World} {base:Nat} {t:List ColB} {c:Nat} {v:Value} (h:w.ownsRow base 61 4 v t.length (colsC t)) (hc:c < t.length) :
  ∃ b cap,v=.slice (some ⟨b,0,none⟩) t.length cap∧b < w.heap.size∧w.cell? ⟨b,c*4,none⟩=some (strB (colAt t c).name)∧w.cell? ⟨b,c*4+1,none⟩=some (.int .i64 (colAt t c).kind)∧w.cell? ⟨b,c*4+2,none⟩=some (.int .i64 (colAt t c).key)∧w.cell? ⟨b,c*4+3,none⟩=some (.slice none 0 0):=by
 rcases h.2 with ⟨rfl,h1⟩|⟨b,cap,cur,rfl,_⟩
 ·omega
 ·refine ⟨b,cap,rfl,(h.lt b rfl).2,?_,?_,?_,?_⟩
  ·rw [h.cellAt _ (by omega)];exact colsX_at (j:=0) hc (by omega)
  ·rw [h.cellAt _ (by omega)];exact colsX_at (j:=1) hc (by omega)
  ·rw [h.cellAt _ (by omega)];exact colsX_at (j:=2) hc (by omega)
  ·rw [h.cellAt _ (by omega)];exact colsX_at (j:=3) hc (by omega)
theorem mods_col {R G P g c:Nat} {t:List ColB} {mp:List ModF} {mm:ModF} (h:ModsOk t (chunkSpots R G P g c) (mp++[mm])):(∀ m ∈ mp,ModOk (colAt t c).key m)∧ModOk (colAt t c).key mm:=by
 have key:∀ {L:List SpotB} {M:List ModF},ModsOk t L M→(∀ s ∈ L,s.c=c)→∀ m ∈ M,ModOk (colAt t c).key m:=by
  intro L M h
  induction h with
  | nil=>intro _ m hm;cases hm
  | cons h1 _ ih =>
   intro hs m hm
   rcases List.mem_cons.1 hm with rfl|hm
   ·have:=hs _ (List.mem_cons_self ..)
    rw [← this];exact h1
   ·exact ih (fun s h=>hs s (List.mem_cons_of_mem _ h)) m hm
 have:=key h chunk_col
 exact ⟨fun m hm=>this m (by simp [hm]),this mm (by simp)⟩
theorem colF_step {t:List ColB} {Qp:Nat→Nat→List ModF} {Qm:Nat→Nat→ModF} {R C G P:Nat} (pre:List UInt8) (r:List KeyB) (kind key:Int) {c k:Nat} (hc:c < C) (hP:1≤P) (hG:1≤G) (hk:k < cntN R G) (h:∀ g,g < cntN R G→∀ i,i < C→ModsOk t (chunkSpots R G P g i) (Qp g i++[Qm g i])) (hl:∀ g,g < cntN R G→∀ i,i < C→(Qp g i).length=cntN (partN R G g) P) {l:List CellB}
  (hcf:cellsF pre r kind key c (some []) (spotsTo R C G P k) (modsTo (fun g c=>Qp g c++[Qm g c]) C k)=some l) :
  cellsF pre r kind key c (some []) (spotsTo R C G P (k+1)) (modsTo (fun g c=>Qp g c++[Qm g c]) C (k+1))=(cellsF pre r kind key c (some []) (chunkPages R G P k c) (Qp k c)).bind fun part=>if plainS (secretB r key) pre key 77 k c 0 (Qm k c)=some (metaB kind part) then some (l++part) else none:=by
 have hkG:=(cnt_lt hG).1 hk
 have hlen:=cellsF_to_len (t:=t) pre r kind key hc hP (fun g hg i hi=>h g (by omega) i hi) (by omega) hcf
 rw [cellsF_to (t:=t) pre r kind key hc _ (fun g hg i hi=>h g (by omega) i hi),hcf,cellsF_chunk pre r kind key l (by omega) (Qp k c) (Qm k c) (by rw [hl k hk c hc];simp [chunkPages,pageSpots])]
 rfl
theorem colF_none {t:List ColB} {Q:Nat→Nat→List ModF} {R C G P n:Nat} (pre:List UInt8) (r:List KeyB) (kind key:Int) {c k:Nat} (hc:c < C) (h:∀ g,g < n→∀ i,i < C→ModsOk t (chunkSpots R G P g i) (Q g i))
  (hcf:cellsF pre r kind key c (some []) (spotsTo R C G P k) (modsTo Q C k)=none):∀ j,k+j≤n→cellsF pre r kind key c (some []) (spotsTo R C G P (k+j)) (modsTo Q C (k+j))=none:=by
 intro j
 induction j with
 | zero=>intro _;exact hcf
 | succ j ih =>
  intro hj
  rw [show k+(j+1)=k+j+1 by omega,cellsF_to (t:=t) pre r kind key hc _ (fun g hg i hi=>h g (by omega) i hi),ih (by omega),cellsF_none]
theorem sheetCells_any (S:SheetF) (G P base:Nat) (SC:Array Value) (cv:Value) (Kb:Nat) (V:Nat→Value) (Qp:Nat→Nat→List ModF) (Qm:Nat→Nat→ModF) (Pv:Nat→Nat→Value) (pre:List UInt8) (r:List KeyB) (c:Nat) (w:World)
  (hS:SheetGo S G P base w SC cv Kb V Qp Qm Pv) (hc:c < S.cols.length) (hpre:pre.length≤20) (hsec:(secretB r (colAt S.cols c).key).length≤1000) :
  Calls Tryz.prog 164 #[.agg SC,.int .i64 (c:Int),strB (secretB r (colAt S.cols c).key),strB pre] w (CellsX (cellsF pre r (colAt S.cols c).kind (colAt S.cols c).key c (some []) (spotsF S) S.mods) w):=by
 obtain ⟨i1,hi1,hy0,hy1,hy2⟩:=info_parts Tryz.infoCell
 have hinf:=hS.inf
 have hn6:=hS.n6
 have hkd:(colAt S.cols c).kind=0∨(colAt S.cols c).kind=1:=(hS.small _ (by rw [colAt_eq hc];exact List.getElem_mem _)).kind
 have hOK:∀ g,g < cntN S.rows G→∀ i,i < S.cols.length→ModsOk S.cols (chunkSpots S.rows G P g i) (Qp g i++[Qm g i]):=fun g hg i hi=>((hS.chunks i hi).ok g hg).1
 have hLN:∀ g,g < cntN S.rows G→∀ i,i < S.cols.length→(Qp g i).length=cntN (partN S.rows G g) P:=fun g hg i hi=>((hS.chunks i hi).ok g hg).2
 have HRW:Hid (∀ k w',k < cntN S.rows G→Below w.heap.size w w'→w'.ownsRow base 113 6 (Pv k c) (Qp k c).length (piecesC (colAt S.cols c).key k c (Qp k c))):=fun k w' hk hb=>own_laterX ((hS.chunks c hc).pages k hk) hb
 have HPVS:Hid (∀ k,k < cntN S.rows G→∃ a m cp,Pv k c=.slice a m cp):=fun k hk=>by
  obtain ⟨a,cp,h⟩:=own_slice ((hS.chunks c hc).pages k hk)
  exact ⟨a,_,cp,h⟩
 have HCN:Hid (cntN S.rows G≤60):=Nat.le_trans (cnt_le hS.g1) hS.rows
 have hcn60:=HCN.out
 have hmk:∀ k,k < cntN S.rows G→(∀ m ∈ Qp k c,ModOk (colAt S.cols c).key m)∧ModOk (colAt S.cols c).key (Qm k c):=fun k hk=>mods_col (hOK k hk c hc)
 have HCH:Hid (∀ k w',k < cntN S.rows G→Below w.heap.size w w'→Calls Tryz.prog 232 #[.agg SC,.int .i64 (colAt S.cols c).kind,.agg #[.int .i64 ((partN S.rows G k:Nat):Int),Pv k c,strB [77],.int .i64 (k:Int),.int .i64 (c:Int),.int .i64 0,strB (modNB (colAt S.cols c).key (Qm k c)).1,strB (modNB (colAt S.cols c).key (Qm k c)).2],strB (secretB r (colAt S.cols c).key),strB pre] w' (CellsX (cellsF pre r (colAt S.cols c).kind (colAt S.cols c).key c (some []) (chunkPages S.rows G P k c) (Qp k c)) w')):=fun k w' hk hb =>
  chunkCells_any SC pre r _ _ S.rows G P k c (Qp k c) (Qm k c) base (Pv k c) w' hS.c12 hS.p1 hS.p6 (Nat.le_trans (part_le S.rows G k).2 hS.rows) hkd (by omega) (by omega) hpre hsec (hLN k hk c hc) (hmk k hk).1 (HRW.out k w' hk hb)
 have HPL:Hid (∀ k w',k < cntN S.rows G→Calls Tryz.prog 233 #[.agg #[strB [77],.int .i64 (k:Int),.int .i64 (c:Int),.int .i64 ((0:Nat):Int),strB (modNB (colAt S.cols c).key (Qm k c)).1,strB (modNB (colAt S.cols c).key (Qm k c)).2],strB (secretB r (colAt S.cols c).key),strB pre] w' (PlainX (plainS (secretB r (colAt S.cols c).key) pre (colAt S.cols c).key 77 k c 0 (Qm k c)) w')):=fun k w' hk=>plainM_any 77 k c 0 _ (Qm k c) _ pre w' (hmk k hk).2 (by omega) (by omega) (by omega) hpre hsec
 have HST:=hid (fun k l hk=>colF_step (t:=S.cols) (Qp:=Qp) (Qm:=Qm) (R:=S.rows) (C:=S.cols.length) (G:=G) (P:=P) pre r (colAt S.cols c).kind (colAt S.cols c).key (k:=k) (l:=l) hc hS.p1 hS.g1 hk hOK hLN)
 have HNO:=hid (fun k=>colF_none (t:=S.cols) (Q:=fun g c=>Qp g c++[Qm g c]) (R:=S.rows) (C:=S.cols.length) (G:=G) (P:=P) (n:=cntN S.rows G) pre r (colAt S.cols c).kind (colAt S.cols c).key (k:=k) hc hOK)
 have HPLN:=hid (fun k part (hk:k < cntN S.rows G)=>cellsF_part_len pre r (colAt S.cols c).kind (colAt S.cols c).key (R:=S.rows) (G:=G) (P:=P) (g:=k) (c:=c) (mp:=Qp k c) (part:=part) hS.p1 (by rw [hLN k hk c hc];simp [chunkPages,pageSpots]))
 have HPP:Hid (∀ k,k < cntN S.rows G→0 < partN S.rows G k∧partN S.rows G k≤60):=fun k hk=>⟨(part_pos hS.g1).2 ((cnt_lt hS.g1).1 hk),Nat.le_trans (part_le S.rows G k).2 hS.rows⟩
 have HALL:Hid (spotsF S=spotsTo S.rows S.cols.length G P (cntN S.rows G)∧S.mods=modsTo (fun g c=>Qp g c++[Qm g c]) S.cols.length (cntN S.rows G)):=⟨hS.spots,hS.mods⟩
 obtain ⟨cb,cc,rfl,hcb,k0,k1,k2,k3⟩:=cols_at hS.cols hc
 have hrow:=(hS.chunks c hc).row
 obtain ⟨va,vc,hV⟩:=own_slice hrow
 have hkbc:w.cell? ⟨Kb,c,none⟩=some (.slice va (cntN S.rows G) vc):=by
  rw [cell_of_heap hS.kb,← hV]
  simp [hc]
 have HC15:=hid hS.c15
 have HC17:=hid hS.c17
 rw [hV] at hrow
 have Hrow:=hid hrow
 have hci:(c:Int) < (S.cols.length:Int):=by omega
 clear hrow hV hmk hOK hLN hkd hS hpre hsec HRW
 generalize cntN S.rows G=CN at *
 generalize hsec0:secretB r (colAt S.cols c).key=sec at *
 generalize hkey0:(colAt S.cols c).key=key at *
 generalize hkin0:(colAt S.cols c).kind=kind at *
 clear hkey0 hkin0 hsec0
 generalize S.cols.length=n at *
 obtain ⟨hb0,hl0,_,ho0⟩:=boxedW w SC 120
 have x15:(w.alloc (.cells SC 120)).cell? ⟨w.heap.size,15,none⟩=some (.slice (some ⟨cb,0,none⟩) n cc):=by rw [cell_of_heap ho0];exact HC15.out
 have x17:(w.alloc (.cells SC 120)).cell? ⟨w.heap.size,17,none⟩=some (.slice (some ⟨Kb,0,none⟩) n n):=by rw [cell_of_heap ho0];exact HC17.out
 have z1:=cell_alloc_keep (.cells SC 120) k1
 have z2:=cell_alloc_keep (.cells SC 120) hkbc
 go_enter Tryz.func164,Tryz.ntmps164
 have s15:=HC15.out
 have s17:=HC17.out
 go_wp2
 clear s15 s17 x15 x17 z1 z2 k0 k1 k2 k3 hkbc HC15 HC17
 generalize w.alloc _=W0 at *
 go_loopw [10,27] (fun v i wr=>∃ (k:Nat) (l:List CellB),k≤CN∧i=.int .i64 (k:Int)∧cellsF pre r kind key c (some []) (spotsTo S.rows n G P k) (modsTo (fun g c=>Qp g c++[Qm g c]) n k)=some l∧l.length≤k*60∧(∀ x ∈ l,smallC x)∧wr.ownsRow w.heap.size 58 3 v l.length (cellsC l)∧wr.heap[w.heap.size]?=some (.cells SC 120 (0,0))∧Below w.heap.size w wr) (fun _ i _=>CN - (intOf i).toNat)
 case atStart=>exact ⟨0,[],Nat.zero_le _,rfl,rfl,Nat.zero_le _,(by intro x hx;cases hx),World.ownsRow_nil _ _ _ _,ho0,hb0⟩
 case round =>
  obtain ⟨k,l,hkC,rfl,hcf,hll,hsm,hown,hq,hB⟩:=hrel
  have Hcf:=hid hcf
  have Hsm:=hid hsm
  have Hown:=hid hown
  have Hq:=hid hq
  have HB:=hid hB
  have hwz:=hB.size
  obtain ⟨wa,wc,rfl⟩:=own_slice hown
  clear hcf hsm hown hq hB
  by_cases hlt:k < CN
  ·have hiM:(k:Int) < (CN:Int):=by omega
   obtain ⟨vb,vc2,hva,hvb,p0,p1,p2,p3,p4,p5,p6,p7⟩:=chunks_at (own_laterX Hrow.out HB.out) hlt
   injection hva with hva1 hva2 hva3
   subst hva1 hva3
   clear hva2 hb0 hl0 ho0
   obtain ⟨hpp,hp60⟩:=HPP.out k hlt
   have HCHk:=hid (fun w'=>HCH.out k w' hlt)
   have HPLk:=hid (fun w'=>HPL.out k w' hlt)
   have HSTEP:=hid (HST.out k l hlt Hcf.out)
   have HPLNk:=hid (fun part=>HPLN.out k part hlt)
   have HNONE:Hid (cellsF pre r kind key c (some []) (spotsTo S.rows n G P (k+1)) (modsTo (fun g c=>Qp g c++[Qm g c]) n (k+1))=none→cellsF pre r kind key c (some []) (spotsF S) S.mods=none):=fun h=>by
    have:=HNO.out (k+1) h (CN - (k+1)) (by omega)
    rw [show k+1+(CN - (k+1))=CN by omega] at this
    rw [HALL.out.1,HALL.out.2];exact this
   clear HST HNO HCH HPL HPLN HPP
   generalize partN S.rows G k=pn at *
   generalize hO:cellsF pre r kind key c (some []) (chunkPages S.rows G P k c) (Qp k c)=O at *
   clear hO
   generalize hO2:plainS sec pre key 77 k c 0 (Qm k c)=O2 at *
   clear hO2
   generalize (modNB key (Qm k c)).1=n1 at *
   generalize (modNB key (Qm k c)).2=n2 at *
   obtain ⟨pa,pm,pcp,hpv⟩:=HPVS.out k hlt
   rw [hpv] at p1 HCHk
   clear hpv HPVS
   obtain ⟨hbx,hsx,_,hhx⟩:=boxedW wr #[.int .i64 (pn:Int),.slice pa pm pcp,strB [77],.int .i64 (k:Int),.int .i64 (c:Int),.int .i64 0,strB n1,strB n2] 261
   have hqx:=heap_later hbx Hq.out
   obtain ⟨y0,y1,y2,y3,y4,y5,y6,y7⟩:=(cells8 hhx).1
   go_upto_region 6 with fail
   clear y0 y1 y2 y3 y4 y5 y6 y7 p0 p1 p2 p3 p4 p5 p6 p7
   have HBx:=hid hbx
   have Hhx:=hid hhx
   have Hqx:=hid hqx
   have Hox:=hid (own_after Hown.out hbx)
   clear hbx hhx hqx hsx
   generalize hwx:wr.alloc _=wx at *
   clear hwx
   generalize hxs:wr.heap.size=xs at Hhx ⊢
   clear hxs
   have HINF:=hid hinf
   clear hinf
   go_wp2_with (first|(refine wpList_load_row rfl 120 (.tmp 4) rfl w.heap.size rfl 120 SC (0,0) _ Hqx.out Tryz.underlying120 rfl HINF.out ?_)|(refine wpList_load_row rfl 261 (.tmp 12) rfl xs rfl 261 _ (0,0) _ Hhx.out Tryz.underlying261 rfl (by kernel_rfl) ?_))
   refine (HCHk.out wx (HB.out.trans (HBx.out.mono hwz))).mono ?_
   rintro e w2 ⟨hb2,⟨hn2,rfl⟩|⟨part,v2,hsome,rfl,hsm2,hown2⟩⟩
   ·have HE:Hid (cellsF pre r kind key c (some []) (spotsF S) S.mods=none):=HNONE.out (by rw [HSTEP.out,hn2];rfl)
    have HBE:=hid (HB.out.trans ((HBx.out.trans (hb2.mono HBx.out.size)).mono hwz))
    clear hn2 hb2
    go_wp2
    exact ⟨rfl,HBE.out,.inl ⟨HE.out,rfl⟩⟩
   have hpl:=HPLNk.out part hsome
   have HSOME:=hid hsome
   have HSM2:=hid hsm2
   obtain ⟨a2,cap2,rfl,_,hli2⟩:=own_lies hown2 (fun x hx=>⟨(hsm2 x hx).1,(hsm2 x hx).2.1,Nat.le_trans (hsm2 x hx).2.2 (by decide)⟩)
   have HB2:=hid (HBx.out.trans (hb2.mono HBx.out.size))
   have Hh2:=hid (heap_later hb2 Hhx.out)
   have Hq2:=hid (heap_later hb2 Hqx.out)
   have Ho2:=hid (own_after Hox.out hb2)
   have HL2:=hid hli2
   have hpl60:part.length≤60:=by omega
   have hpl0:0 < part.length:=by omega
   clear hb2 hsome hsm2 hown2 hli2 hpl
   obtain ⟨y0,y1,y2,y3,y4,y5,y6,y7⟩:=(cells8 Hh2.out).1
   go_wp2_with fail
   clear y0 y1 y2 y3 y4 y5 y6 y7
   refine (HPLk.out w2).mono ?_
   rintro e w3 ⟨hb3,⟨hn3,rfl⟩|⟨p,hsome3,rfl⟩⟩
   ·have HE:Hid (cellsF pre r kind key c (some []) (spotsF S) S.mods=none):=HNONE.out (by rw [HSTEP.out,HSOME.out,Option.bind_some,hn3,if_neg (by simp)])
    have HBE:=hid (HB.out.trans ((HB2.out.trans (hb3.mono HB2.out.size)).mono hwz))
    clear hn3 hb3
    go_wp2
    exact ⟨rfl,HBE.out,.inl ⟨HE.out,rfl⟩⟩
   have HB3:=hid (HB2.out.trans (hb3.mono HB2.out.size))
   have Hq3:=hid (heap_later hb3 Hq2.out)
   have Ho3:=hid (own_after Ho2.out hb3)
   have HL3:=hid (HL2.out.later hb3)
   have HP3:=hid hsome3
   clear hb3 hsome3
   go_wp2_with fail
   refine (meta_does kind a2 cap2 part w3 hpl60 HSM2.out HL3.out).mono ?_
   rintro e w4 ⟨rfl,hb4⟩
   have HB4:=hid (HB3.out.trans (hb4.mono HB3.out.size))
   have Hq4:=hid (heap_later hb4 Hq3.out)
   have Ho4:=hid (own_after Ho3.out hb4)
   have HL4:=hid (HL3.out.later hb4)
   clear hb4
   go_wp2_with fail
   by_cases hmt:p=metaB kind part
   ·have hbq:(p == metaB kind part)=true:=by rw [beq_iff_eq];exact hmt
    rw [hbq]
    clear hbq
    refine (need_yes w4).mono ?_
    rintro e w5 ⟨rfl,rfl⟩
    have HSM:Hid (∀ x ∈ l++part,smallC x):=fun x hx=>by
     rcases List.mem_append.1 hx with h|h
     ·exact Hsm.out x h
     ·exact HSM2.out x h
    have HNEW:Hid (cellsF pre r kind key c (some []) (spotsTo S.rows n G P (k+1)) (modsTo (fun g c=>Qp g c++[Qm g c]) n (k+1))=some (l++part)):=by
     show _=_
     rw [HSTEP.out,HSOME.out,Option.bind_some,HP3.out,if_pos (by rw [hmt])]
    clear hmt
    obtain ⟨b2,off2,rfl,hb2lt,hcell⟩:=HL4.out.at_ (List.ne_nil_of_length_pos hpl0)
    have HCL:=hid (Lies.cells hcell)
    clear hcell
    have hz4:=HB4.out.size
    go_wp2_with (refine wpList_append_lies _ rfl _ _ _ rfl w.heap.size 58 i1 _ 3 32 Tryz.underlying59 hi1 hy0 hy1 hy2 rfl (by omega) _ l.length (cellsC l) rfl Ho4.out ⟨b2,off2,none⟩ part.length cap2 (cellsC part) rfl (cellsC_length part) HCL.out (cellsC_one part) hpl0 (by unfold maxLen;omega) (by omega) (by omega) _ rfl ?_;intro gg gc w6 hown6 hgr6 hat6 hlt6)
    have HO6:=hid hown6
    have HQ6:=hid (heap_grown_keep hgr6 Ho4.out Hq4.out (by decide))
    have HB6:=hid ((HB.out.trans (HB4.out.mono hwz)).grown hgr6 (by omega) (fun k hk=>(Ho4.out.lt k hk).1))
    clear hown6 hgr6 hat6 hlt6
    go_wp2
    go_roundw
    case rel =>
     refine ⟨k+1,l++part,by omega,by go_num,HNEW.out,by rw [List.length_append];omega,HSM.out,?_,HQ6.out,HB6.out⟩
     rw [cellsC_append,List.length_append]
     exact HO6.out
    case measure=>simp [intOf];omega
   ·have hbq:(p == metaB kind part)=false:=by rw [beq_eq_false_iff_ne];exact hmt
    rw [hbq]
    clear hbq
    refine (need_no w4).mono ?_
    rintro e w5 ⟨rfl,rfl⟩
    have HE:Hid (cellsF pre r kind key c (some []) (spotsF S) S.mods=none):=HNONE.out (by rw [HSTEP.out,HSOME.out,Option.bind_some,HP3.out,if_neg (by intro h;injection h with h;exact hmt h)])
    have HBE:=hid (HB.out.trans (HB4.out.mono hwz))
    clear hmt
    go_wp2
    exact ⟨rfl,HBE.out,.inl ⟨HE.out,rfl⟩⟩
  ·have hke:k=CN:=by omega
   subst hke
   have HE:Hid (cellsF pre r kind key c (some []) (spotsF S) S.mods=some l):=by
    show _=_
    rw [HALL.out.1,HALL.out.2];exact Hcf.out
   clear hlt
   go_wp2
   go_ret
   exact ⟨HB.out,.inr ⟨l,_,HE.out,rfl,Hsm.out,Hown.out⟩⟩
end
section
theorem columns_any (SC:Array Value) (a:Option Addr) (n cp:Nat) (w:World) (h15:SC[15]?=some (.slice a n cp)) :
  Calls Tryz.prog 101 #[.agg SC] w fun e w'=>e=.returned (.slice a n cp)∧Below w.heap.size w w':=by
 obtain ⟨hb0,hl0,_,ho0⟩:=boxedW w SC 120
 have HB0:=hid hb0
 clear hb0
 go_enter Tryz.func101,Tryz.ntmps101
 go_wp2
 go_ret
 exact ⟨rfl,HB0.out⟩
theorem cellsWork (S:SheetF) (G P base:Nat) (SC:Array Value) (cv:Value) (Kb:Nat) (V:Nat→Value) (Qp:Nat→Nat→List ModF) (Qm:Nat→Nat→ModF) (Pv:Nat→Nat→Value) (pre:List UInt8) (r:List KeyB) (c:Nat) (w:World)
  (hS:SheetGo S G P base w SC cv Kb V Qp Qm Pv) (hc:c < S.cols.length) (hpre:pre.length≤20) (hsec:(secretB r (colAt S.cols c).key).length≤1000) (B0 B1 B2 B3:Nat)
  (h0:w.heap[B0]?=some (.cells SC 120 (0,0))) (h1:w.cell? ⟨B1,0,none⟩=some (.int .i64 (c:Int))) (h2:w.cell? ⟨B2,0,none⟩=some (strB (secretB r (colAt S.cols c).key))) (h3:w.cell? ⟨B3,0,none⟩=some (strB pre)) :
  Calls Tryz.prog 163 #[.pointer (some ⟨B0,0,none⟩),.pointer (some ⟨B1,0,none⟩),.pointer (some ⟨B2,0,none⟩),.pointer (some ⟨B3,0,none⟩)] w (CellsX (cellsF pre r (colAt S.cols c).kind (colAt S.cols c).key c (some []) (spotsF S) S.mods) w):=by
 have HC:=hid (sheetCells_any S G P base SC cv Kb V Qp Qm Pv pre r c w hS hc hpre hsec)
 have hinf:=hS.inf
 clear hS hc hpre hsec
 generalize cellsF pre r (colAt S.cols c).kind (colAt S.cols c).key c (some []) (spotsF S) S.mods=O at *
 generalize secretB r (colAt S.cols c).key=sec at *
 go_enter Tryz.func163,Tryz.ntmps163
 go_wp2_with (refine wpList_load_row rfl 120 (.tmp 0) rfl B0 rfl 120 SC (0,0) _ h0 Tryz.underlying120 rfl hinf ?_)
 refine HC.out.mono ?_
 rintro e w2 ⟨hb2,⟨hn,rfl⟩|⟨l,v,hu,rfl,hsm,hown⟩⟩
 ·have HN:=hid hn
  clear hn
  go_wp2
  exact ⟨rfl,hb2,.inl ⟨HN.out,rfl⟩⟩
 ·have HU:=hid hu
  have HSM:=hid hsm
  have HO:=hid hown
  obtain ⟨va,vc,rfl⟩:=own_slice hown
  clear hu hsm hown
  go_wp2
  go_ret
  exact ⟨hb2,.inr ⟨l,_,HU.out,rfl,HSM.out,HO.out⟩⟩
theorem own_flag {w:World} {B e s n:Nat} {v:Value} {xs:List Value} (h:w.ownsRow (B+1) e s v n xs) (b:Value):(w.setCell ⟨B,0,none⟩ b).ownsRow (B+1) e s v n xs :=
 h.kept (set_grown w B 0 b) (by
  rcases hv:v.ownBlock with _|k
  ·exact .inl rfl
  ·refine .inr (fun e=>?_)
   have:=(h.lt k hv).1
   injection e with e
   omega)
theorem cellsTry (S:SheetF) (G P base:Nat) (SC:Array Value) (cv:Value) (Kb:Nat) (V:Nat→Value) (Qp:Nat→Nat→List ModF) (Qm:Nat→Nat→ModF) (Pv:Nat→Nat→Value) (pre:List UInt8) (r:List KeyB) (c:Nat) (w:World)
  (hS:SheetGo S G P base w SC cv Kb V Qp Qm Pv) (hc:c < S.cols.length) (hpre:pre.length≤20) (hsec:(secretB r (colAt S.cols c).key).length≤1000) (B0 B1 B2 B3:Nat)
  (h0:w.heap[B0]?=some (.cells SC 120 (0,0))) (h1:w.cell? ⟨B1,0,none⟩=some (.int .i64 (c:Int))) (h2:w.cell? ⟨B2,0,none⟩=some (strB (secretB r (colAt S.cols c).key))) (h3:w.cell? ⟨B3,0,none⟩=some (strB pre)) :
  Calls Tryz.prog 68 #[.func (.func 163) #[] #[.pointer (some ⟨B0,0,none⟩),.pointer (some ⟨B1,0,none⟩),.pointer (some ⟨B2,0,none⟩),.pointer (some ⟨B3,0,none⟩)]] w fun e w'=>Below w.heap.size w w' ∧
   ((cellsF pre r (colAt S.cols c).kind (colAt S.cols c).key c (some []) (spotsF S) S.mods=none∧e=.returned (.tuple #[.slice none 0 0,.bool false]))∨∃ l v,cellsF pre r (colAt S.cols c).kind (colAt S.cols c).key c (some []) (spotsF S) S.mods=some l∧e=.returned (.tuple #[v,.bool true])∧(∀ c ∈ l,smallC c)∧w'.ownsRow w.heap.size 58 3 v l.length (cellsC l)):=by
 have hmf:∀ (fn:Fn) (first cap:Array Value) (w:World),(Instr.makeFunc fn first cap).run Tryz.prog w=.ok (.func fn first cap) w:=fun _ _ _ _=>rfl
 have hb0:Below w.heap.size w (w.alloc (Obj.cells #[Value.bool false] 4)):=(Below.refl _ _).alloc (Nat.le_refl _) _
 have HW:=hid (cellsWork S G P base SC cv Kb V Qp Qm Pv pre r c (w.alloc (Obj.cells #[Value.bool false] 4)) (hS.later hb0) hc hpre hsec B0 B1 B2 B3 (heap_later hb0 h0) (cell_alloc_keep _ h1) (cell_alloc_keep _ h2) (cell_alloc_keep _ h3))
 clear hS hc hpre hsec h0 h1 h2 h3
 generalize cellsF pre r (colAt S.cols c).kind (colAt S.cols c).key c (some []) (spotsF S) S.mods=O at *
 go_enter_defers Tryz.func68,Tryz.ntmps68
 go_wp2_with fail
 refine HW.out.mono ?_
 rintro e w2 ⟨hb2,ho⟩
 have hc2:w2.cell? ⟨w.heap.size,0,none⟩=some (.bool false):=(hb2.cell (p:=⟨w.heap.size,0,none⟩) (by show w.heap.size < (w.alloc _).heap.size;simp)).trans (World.cell?_alloc_mark ..)
 have hz2:w2.frozen? ⟨w.heap.size,0,none⟩=false:=(hb2.frozen (p:=⟨w.heap.size,0,none⟩) (by show w.heap.size < (w.alloc _).heap.size;simp)).trans (World.frozen?_alloc_at _ _ _ _ rfl)
 have HB2:=hid (hb0.trans (hb2.mono hb0.size))
 have hlt2:w.heap.size < w2.heap.size:=World.block_lt_of_cell? w2 _ hc2
 rcases ho with ⟨hn,rfl⟩|⟨l,v,hu,rfl,hsm,hown⟩
 ·have Hn:=hid hn
  clear hn hb2 hb0 HW
  go_wp2
  refine leaves_cons (f:=129) (args:=#[.pointer (some ⟨w.heap.size,0,none⟩)]) (by simp) (by simp [go_sem]) ?_
  refine (catch_panicking ⟨w.heap.size,0,none⟩ false 9 _ [] _ hc2 hz2).mono ?_
  rintro e u' w'' ⟨rfl,rfl,rfl⟩
  have hW:=World.cell?_setCell_same w2 ⟨w.heap.size,0,none⟩ (.bool false) hc2
  have HBW:=hid (HB2.out.setCell (p:=⟨w.heap.size,0,none⟩) (Nat.le_refl _) (.bool false))
  generalize w2.setCell _ _=W at *
  simp [Leaves,settle,results,Tryz.results68,go_sem,hW]
  exact ⟨HBW.out,Hn.out⟩
 ·have Hu:=hid hu
  have Hsm:=hid hsm
  have Hown:Hid (w2.ownsRow (w.heap.size+1) 58 3 v l.length (cellsC l)):=by
   have e:(w.alloc (Obj.cells #[Value.bool false] 4)).heap.size=w.heap.size+1:=by simp
   rw [e] at hown
   exact hown
  obtain ⟨va,vc,rfl⟩:=own_slice hown
  clear hu hsm hown hb2 hb0 HW
  go_wp2
  refine leaves_cons (f:=129) (args:=#[.pointer (some ⟨w.heap.size,0,none⟩)]) (by simp) (by simp [go_sem]) ?_
  refine (catch_idle ⟨w.heap.size,0,none⟩ true _ ?_ ?_).mono ?_
  ·exact World.cell?_setCell_same w2 ⟨w.heap.size,0,none⟩ (.bool true) hc2
  ·simp [hz2]
  rintro e u' w'' ⟨rfl,rfl,rfl⟩
  have hW1:=World.cell?_setCell_same w2 ⟨w.heap.size,0,none⟩ (.bool true) hc2
  have hW:=World.cell?_setCell_same _ ⟨w.heap.size,0,none⟩ (.bool true) hW1
  have HBW:=hid ((HB2.out.setCell (p:=⟨w.heap.size,0,none⟩) (Nat.le_refl _) (.bool true)).setCell (p:=⟨w.heap.size,0,none⟩) (Nat.le_refl _) (.bool true))
  have HLW:=hid (ownsRow_base (own_flag (own_flag Hown.out (.bool true)) (.bool true)) (b':=w.heap.size) (Nat.le_succ _))
  clear hW1
  generalize (w2.setCell _ _).setCell _ _=W at *
  simp [Leaves,settle,results,Tryz.results68,go_sem,hW]
  exact ⟨HBW.out,l,Hu.out,Hsm.out,HLW.out⟩
theorem findCells_any (S:SheetF) (G P base:Nat) (SC:Array Value) (cv:Value) (Kb:Nat) (V:Nat→Value) (Qp:Nat→Nat→List ModF) (Qm:Nat→Nat→ModF) (Pv:Nat→Nat→Value) (pre:List UInt8) (ra:Option Addr) (rcap:Nat) (r:List KeyB) (c:Nat) (w:World)
  (hS:SheetGo S G P base w SC cv Kb V Qp Qm Pv) (hc:c < S.cols.length) (hpre:pre.length≤20) (hr:ringOkB r=true) (hrm:r.length≤maxLen) (hl:LiesK w ra r) :
  Calls Tryz.prog 102 #[.agg SC,.int .i64 (c:Int),strB pre,.slice ra r.length rcap] w fun e w'=>Below w.heap.size w w' ∧
   ∃ v,e=.returned (.tuple #[.int .i64 (foundF pre r S c).state,v])∧(∀ x ∈ (foundF pre r S c).cells,smallC x)∧w'.ownsRow w.heap.size 58 3 v (foundF pre r S c).cells.length (cellsC (foundF pre r S c).cells):=by
 have hsec:(secretB r (colAt S.cols c).key).length≤1000:=by
  cases hh:hasNumB r (colAt S.cols c).key with
  | true=>rw [secret_len hr hh];decide
  | false=>rw [(secret_none hr).2 hh];decide
 have hsm:=hS.small _ (show colAt S.cols c ∈ S.cols by rw [colAt_eq hc];exact List.getElem_mem _)
 have hk0:=hsm.key.1
 have hk9:=hsm.key.2
 have HLK:Hid ((colAt S.cols c).key≠0→hasNumB r (colAt S.cols c).key=false→(foundF pre r S c).state=1∧(foundF pre r S c).cells=[]):=fun h1 h2=>by
  unfold foundF
  rw [if_pos ⟨by omega,h2⟩]
  exact ⟨rfl,rfl⟩
 have HBR:Hid (((colAt S.cols c).key=0∨hasNumB r (colAt S.cols c).key=true)→cellsF pre r (colAt S.cols c).kind (colAt S.cols c).key c (some []) (spotsF S) S.mods=none→(foundF pre r S c).state=2∧(foundF pre r S c).cells=[]):=fun h1 h2=>by
  unfold foundF
  rw [if_neg (by rintro ⟨h3,h4⟩;rcases h1 with h1|h1;omega;rw [h1] at h4;cases h4),h2]
  exact ⟨rfl,rfl⟩
 have HGT:Hid (∀ l,((colAt S.cols c).key=0∨hasNumB r (colAt S.cols c).key=true)→cellsF pre r (colAt S.cols c).kind (colAt S.cols c).key c (some []) (spotsF S) S.mods=some l→(foundF pre r S c).state=0∧(foundF pre r S c).cells=l):=fun l h1 h2=>by
  unfold foundF
  rw [if_neg (by rintro ⟨h3,h4⟩;rcases h1 with h1|h1;omega;rw [h1] at h4;cases h4),h2]
  exact ⟨rfl,rfl⟩
 have HTRY:=hid (fun w' (hb:Below w.heap.size w w') B2 h0 h1 h2 h3=>cellsTry S G P base SC cv Kb V Qp Qm Pv pre r c w' (hS.later hb) hc hpre hsec w.heap.size (w.heap.size+1) B2 (w.heap.size+1+1) h0 h1 h2 h3)
 have HSE:=hid (fun w' (h:LiesK w' ra r)=>secret_any ra rcap r (colAt S.cols c).key w' hrm h)
 have Hinf:=hid hS.inf
 obtain ⟨cb,cc,rfl,hcb,k0,k1,k2,k3⟩:=cols_at hS.cols hc
 have HCO:=hid (fun w'=>columns_any SC (some ⟨cb,0,none⟩) S.cols.length cc w' hS.c15)
 have hci:(c:Int) < (S.cols.length:Int):=by omega
 have Hl:=hid hl
 clear hS hpre hr hsec hsm hl k0 k1 k3 hk0 hk9
 generalize foundF pre r S c=FD at *
 generalize cellsF pre r (colAt S.cols c).kind (colAt S.cols c).key c (some []) (spotsF S) S.mods=O at *
 generalize secretB r (colAt S.cols c).key=sec at *
 generalize hasNumB r (colAt S.cols c).key=has at *
 generalize (colAt S.cols c).key=key at *
 generalize S.cols.length=n at *
 obtain ⟨hb0,hl0,ho0,ho1,ho2⟩:=boxes3 w SC 120 #[.int .i64 (c:Int)] 3 #[strB pre] 9
 have HK2:=hid (cell_alloc_keep (.cells #[strB pre] 9) (cell_alloc_keep (.cells #[.int .i64 (c:Int)] 3) (cell_alloc_keep (.cells SC 120) k2)))
 clear k2
 go_enter Tryz.func102,Tryz.ntmps102
 go_upto_region 1 with fail
 have HB0:=hid hb0
 have Ho0:=hid ho0
 have Ho1:=hid ho1
 have Ho2:=hid ho2
 have HL0:=hid (Hl.out.later hb0)
 clear hb0 ho0 ho1 ho2 hl0
 generalize ((w.alloc _).alloc _).alloc _=W0 at *
 have HC1:Hid (W0.cell? ⟨w.heap.size+1,0,none⟩=some (.int .i64 (c:Int))):=by show _=_;rw [cell_of_heap Ho1.out];rfl
 refine wp_region_held_drew (S:=fun w'=>w'.heap[w.heap.size]?=some (.cells SC 120 (0,0))∧w'.cell? ⟨w.heap.size+1,0,none⟩=some (.int .i64 (c:Int))∧w'.cell? ⟨cb,c*4+2,none⟩=some (.int .i64 key)) (by kernel_rfl) ?_ (fun hHeld=>?_)
 ·exact ⟨Ho0.out,HC1.out,HK2.out⟩
 refine wpAnyH_take (i:=0) (oi:=_) (v:=.agg SC) rfl (by kernel_rfl) (by kernel_rfl) (by kernel_rfl) (fun _ _ _ h=>h) (Or.inl ⟨by rfl,fun w hSw=>?_⟩) (by assumption) ?_
 ·have hrl:=run_loadVar_row (P:=Tryz.prog) w _ 120 120 SC (0,0) _ hSw.1 Tryz.underlying120 rfl Hinf.out
  unfold execOp
  simp [List.getElem_toArray,List.getElem_cons_zero,Act.eval,Instr.loadAt,Instr.sureAddr,Sem.run_bind,Sem.run_pure,Result.andThen_ok,hrl]
 simp only [jA,jB,jC,Act.put,jD,jE,jF]
 refine tk 2 (.int .i64 (c:Int)) ?_
 simp only [jA,jB,jC,Act.put,jD,jE,jF]
 refine rd 1 (fun K hK=>?_)
 simp only [jA,jB,jC]
 go_simp
 go_at_call 101
 refine (HCO.out _).mono ?_
 rintro e w1 ⟨rfl,hb1⟩
 have hb1':=below_undrew hb1
 have HS1:Hid (w1.heap[w.heap.size]?=some (.cells SC 120 (0,0))∧w1.cell? ⟨w.heap.size+1,0,none⟩=some (.int .i64 (c:Int))∧w1.cell? ⟨cb,c*4+2,none⟩=some (.int .i64 key)) :=
  ⟨heap_later hb1' Ho0.out,(hb1'.cell (p:=⟨w.heap.size+1,0,none⟩) (World.block_lt_of_cell? W0 _ HC1.out)).trans HC1.out,(hb1'.cell (p:=⟨cb,c*4+2,none⟩) (World.block_lt_of_cell? W0 _ HK2.out)).trans HK2.out⟩
 have HB1:=hid (HB0.out.trans (hb1'.mono HB0.out.size))
 have HL1:=hid (HL0.out.later hb1')
 have Ho2':=hid (heap_later hb1' Ho2.out)
 have Ho1':=hid (heap_later hb1' Ho1.out)
 have Ho0':=hid (heap_later hb1' Ho0.out)
 clear hb1 hb1'
 try go_wp2_with fail
 refine hK.out _ _ HS1.out (fun hHeld=>?_)
 clear hK K
 try simp only [jA,jB,jC,Act.put,jD,jE,jF]
 refine tk 3 (.pointer (some ⟨cb,c*4,none⟩)) ?_
 refine tk 4 (.pointer (some ⟨cb,c*4+2,none⟩)) ?_
 refine tk 5 (.int .i64 key) ?_
 refine tk 6 (.int .i64 key) ?_
 simp only [jA,jB,jC,Act.put,jD,jE,jF]
 refine wpAnyH_done (by kernel_rfl) ?_ _
 clear hHeld HS1 HC1 HK2 Ho0 Ho1 Ho2 HL0 HB0 HCO Hinf
 have hmf:∀ (fn:Fn) (first cap:Array Value) (w:World),(Instr.makeFunc fn first cap).run Tryz.prog w=.ok (.func fn first cap) w:=fun _ _ _ _=>rfl
 go_wp2_with fail
 refine (HSE.out w1 HL1.out).mono ?_
 rintro e w2 ⟨rfl,hb2⟩
 obtain ⟨hb3,hl3,_,ho3⟩:=boxedW w2 #[strB sec] 9
 have HB2:=hid (HB1.out.trans (hb2.mono HB1.out.size))
 have HB3:=hid (HB2.out.trans (hb3.mono HB2.out.size))
 have HX0:=hid (heap_later hb3 (heap_later hb2 Ho0'.out))
 have HX1:=hid (heap_later hb3 (heap_later hb2 Ho1'.out))
 have HX2:=hid (heap_later hb3 (heap_later hb2 Ho2'.out))
 have HX3:=hid ho3
 clear hb2 hb3 hl3 ho3 Ho0' Ho1' Ho2' HL1 HB1
 by_cases hbad:key≠0∧has=false
 ·obtain ⟨hk,rfl⟩:=hbad
  obtain ⟨h1,h2⟩:=HLK.out hk rfl
  have Hst:=hid h1
  have Hce:=hid h2
  have hkb:(key != 0)=true:=by rw [bne_iff_ne];exact hk
  clear h1 h2 hk
  go_wp2
  go_ret2
  refine ⟨HB3.out,.slice none 0 0,by rw [Hst.out];rfl,(fun x hx=>by rw [Hce.out] at hx;cases hx),by rw [Hce.out];exact World.ownsRow_nil _ _ _ _⟩
 ·have hgood:key=0∨has=true:=by
   by_cases h:key=0
   ·exact .inl h
   ·right
    cases has with
    | true=>rfl
    | false=>exact absurd ⟨h,rfl⟩ hbad
  have Hgood:=hid hgood
  clear hbad hgood
  by_cases hk:key=0
  ·subst hk
   go_wp2_with fail
   have HC1:Hid ((w2.alloc (.cells #[strB sec] 9)).cell? ⟨w.heap.size+1,0,none⟩=some (.int .i64 (c:Int))):=by show _=_;rw [cell_of_heap HX1.out];rfl
   have HC2:Hid ((w2.alloc (.cells #[strB sec] 9)).cell? ⟨w.heap.size+1+1,0,none⟩=some (strB pre)):=by show _=_;rw [cell_of_heap HX2.out];rfl
   have HC3:Hid ((w2.alloc (.cells #[strB sec] 9)).cell? ⟨w2.heap.size,0,none⟩=some (strB sec)):=by show _=_;rw [cell_of_heap HX3.out];rfl
   refine (HTRY.out _ HB3.out w2.heap.size HX0.out HC1.out HC3.out HC2.out).mono ?_
   clear HX0 HX1 HX2 HX3 HC1 HC2 HC3 HTRY
   generalize w2.alloc _=w3 at *
   rintro e w4 ⟨hb4,⟨hn,rfl⟩|⟨l,v,hu,rfl,hsm,hown⟩⟩
   ·have HB4:=hid (HB3.out.trans (hb4.mono HB3.out.size))
    obtain ⟨h1,h2⟩:=HBR.out Hgood.out hn
    have Hst:=hid h1
    have Hce:=hid h2
    clear h1 h2 hn hb4
    go_wp2
    go_ret2
    exact ⟨HB4.out,.slice none 0 0,by rw [Hst.out];rfl,(fun x hx=>by rw [Hce.out] at hx;cases hx),by rw [Hce.out];exact World.ownsRow_nil _ _ _ _⟩
   ·have HB4:=hid (HB3.out.trans (hb4.mono HB3.out.size))
    obtain ⟨h1,h2⟩:=HGT.out l Hgood.out hu
    have Hst:=hid h1
    have Hce:=hid h2
    have Hsm:=hid hsm
    have Hown:=hid (ownsRow_base hown HB3.out.size)
    obtain ⟨va,vc,rfl⟩:=own_slice hown
    clear h1 h2 hu hb4 hsm hown
    go_wp2
    go_ret2
    exact ⟨HB4.out,_,by rw [Hst.out];rfl,(fun x hx=>by rw [Hce.out] at hx;exact Hsm.out x hx),by rw [Hce.out];exact Hown.out⟩
  ·have hkb:(key != 0)=true:=by rw [bne_iff_ne];exact hk
   have hh:has=true:=by
    rcases Hgood.out with h|h
    ·exact absurd h hk
    ·exact h
   subst hh
   clear hk
   go_wp2_with fail
   have HC1:Hid ((w2.alloc (.cells #[strB sec] 9)).cell? ⟨w.heap.size+1,0,none⟩=some (.int .i64 (c:Int))):=by show _=_;rw [cell_of_heap HX1.out];rfl
   have HC2:Hid ((w2.alloc (.cells #[strB sec] 9)).cell? ⟨w.heap.size+1+1,0,none⟩=some (strB pre)):=by show _=_;rw [cell_of_heap HX2.out];rfl
   have HC3:Hid ((w2.alloc (.cells #[strB sec] 9)).cell? ⟨w2.heap.size,0,none⟩=some (strB sec)):=by show _=_;rw [cell_of_heap HX3.out];rfl
   refine (HTRY.out _ HB3.out w2.heap.size HX0.out HC1.out HC3.out HC2.out).mono ?_
   clear HX0 HX1 HX2 HX3 HC1 HC2 HC3 HTRY
   generalize w2.alloc _=w3 at *
   rintro e w4 ⟨hb4,⟨hn,rfl⟩|⟨l,v,hu,rfl,hsm,hown⟩⟩
   ·have HB4:=hid (HB3.out.trans (hb4.mono HB3.out.size))
    obtain ⟨h1,h2⟩:=HBR.out Hgood.out hn
    have Hst:=hid h1
    have Hce:=hid h2
    clear h1 h2 hn hb4
    go_wp2
    go_ret2
    exact ⟨HB4.out,.slice none 0 0,by rw [Hst.out];rfl,(fun x hx=>by rw [Hce.out] at hx;cases hx),by rw [Hce.out];exact World.ownsRow_nil _ _ _ _⟩
   ·have HB4:=hid (HB3.out.trans (hb4.mono HB3.out.size))
    obtain ⟨h1,h2⟩:=HGT.out l Hgood.out hu
    have Hst:=hid h1
    have Hce:=hid h2
    have Hsm:=hid hsm
    have Hown:=hid (ownsRow_base hown HB3.out.size)
    obtain ⟨va,vc,rfl⟩:=own_slice hown
    clear h1 h2 hu hb4 hsm hown
    go_wp2
    go_ret2
    exact ⟨HB4.out,_,by rw [Hst.out];rfl,(fun x hx=>by rw [Hce.out] at hx;exact Hsm.out x hx),by rw [Hce.out];exact Hown.out⟩
end
section
def foundC (f:FoundB) (v:Value):List Value:=[strB f.name,.int .i64 f.kind,.int .i64 f.key,.int .i64 f.state,v]
def foundsC (F:Nat→FoundB) (Vs:Nat→Value) (n:Nat):List Value:=(List.range n).flatMap fun j=>foundC (F j) (Vs j)
theorem foundsC_succ (F:Nat→FoundB) (Vs:Nat→Value) (n:Nat):foundsC F Vs (n+1)=foundsC F Vs n++foundC (F n) (Vs n):=by simp [foundsC,List.range_succ]
theorem foundsC_congr (F:Nat→FoundB) {Vs Ws:Nat→Value} {n:Nat} (h:∀ j,j < n→Vs j=Ws j):foundsC F Vs n=foundsC F Ws n:=by
 induction n with
 | zero=>rfl
 | succ n ih=>rw [foundsC_succ,foundsC_succ,ih (fun j hj=>h j (by omega)),h n (by omega)]
structure FoundsAt (base:Nat) (w:World) (v:Value) (F:Nat→FoundB) (n:Nat) (Vs:Nat→Value):Prop where
 row:w.ownsRow base 91 5 v n (foundsC F Vs n)
 cells:∀ j,j < n→w.ownsRow base 58 3 (Vs j) (F j).cells.length (cellsC (F j).cells)
 small:∀ j,j < n→∀ x ∈ (F j).cells,smallC x
 apart:∀ i j,i < j→j < n→∀ a b,(Vs i).ownBlock=some a→(Vs j).ownBlock=some b→a < b
theorem FoundsAt.later {base:Nat} {w w':World} {v:Value} {F:Nat→FoundB} {n:Nat} {Vs:Nat→Value} (h:FoundsAt base w v F n Vs) (hb:Below w.heap.size w w'):FoundsAt base w' v F n Vs :=
 ⟨own_laterX h.row hb,fun j hj=>own_laterX (h.cells j hj) hb,h.small,h.apart⟩
theorem FoundsAt.lower {base b:Nat} {w:World} {v:Value} {F:Nat→FoundB} {n:Nat} {Vs:Nat→Value} (h:FoundsAt base w v F n Vs) (hb:b≤base):FoundsAt b w v F n Vs :=
 ⟨ownsRow_base h.row hb,fun j hj=>ownsRow_base (h.cells j hj) hb,h.small,h.apart⟩
theorem Tryz.infoFound:(Tryz.prog.info? 91).map (fun i=>(i.zero,i.size,i.bytes))=some (some (.agg #[.string ⟨#[]⟩,.int .i64 0,.int .i64 0,.int .i64 0,.slice none 0 0]),5,64):=by kernel_rfl
theorem FoundsAt.step {base:Nat} {w w':World} {v v' u:Value} {F:Nat→FoundB} {n B:Nat} {Vs:Nat→Value} (h:FoundsAt base w v F n Vs) (hB:∀ j,j < n→∀ a,(Vs j).ownBlock=some a→a < B) (hu:w.ownsRow B 58 3 u (F n).cells.length (cellsC (F n).cells)) (hbB:base≤B) (hs:∀ x ∈ (F n).cells,smallC x)
  (hg:w.grownBy w' v.ownBlock) (hr:w'.ownsRow base 91 5 v' (n+1) (foundsC F Vs n++foundC (F n) u)):FoundsAt base w' v' F (n+1) (fun j=>if j=n then u else Vs j):=by
 have hlt:∀ j,j < n→(if j=n then u else Vs j)=Vs j:=fun j hj=>if_neg (by omega)
 have heq:(if n=n then u else Vs n)=u:=if_pos rfl
 refine ⟨?_,?_,?_,?_⟩
 ·rw [foundsC_succ,foundsC_congr F (Ws:=Vs) hlt]
  show w'.ownsRow base _ 5 v' (n+1) (foundsC F Vs n++foundC (F n) (if n=n then u else Vs n))
  rw [heq]
  exact hr
 ·intro j hj
  by_cases he:j=n
  ·subst he
   show w'.ownsRow base _ 3 (if j=j then u else Vs j) _ _
   rw [heq]
   exact ownsRow_base (hu.kept hg (own_apart hu h.row (by decide))) hbB
  ·rw [hlt j (by omega)]
   exact (h.cells j (by omega)).kept hg (own_apart (h.cells j (by omega)) h.row (by decide))
 ·intro j hj
  by_cases he:j=n
  ·subst he;exact hs
  ·exact h.small j (by omega)
 ·intro i j hij hj a b ha hb
  have ha':(if i=n then u else Vs i).ownBlock=some a:=ha
  have hb':(if j=n then u else Vs j).ownBlock=some b:=hb
  rw [hlt i (by omega)] at ha'
  by_cases he:j=n
  ·subst he
   rw [heq] at hb'
   have h1:=hB i (by omega) a ha'
   have h2:=(hu.lt b hb').1
   omega
  ·rw [hlt j (by omega)] at hb'
   exact h.apart i j hij (by omega) a b ha' hb'
theorem FoundsAt.past {base:Nat} {w w':World} {v:Value} {F:Nat→FoundB} {n B:Nat} {Vs:Nat→Value} (h:FoundsAt base w v F n Vs) (hg:w.grownBy w' (some B)) (hr:∀ a,v.ownBlock=some a→a < B) (hB:∀ j,j < n→∀ a,(Vs j).ownBlock=some a→a < B):FoundsAt base w' v F n Vs:=by
 have key:∀ {u:Value},(∀ a,u.ownBlock=some a→a < B)→u.ownBlock=none∨u.ownBlock≠some B:=fun {u} hu=>by
  rcases hv:u.ownBlock with _|k
  ·exact .inl rfl
  ·refine .inr (fun e=>?_)
   have:=hu k hv
   injection e with e
   omega
 exact ⟨h.row.kept hg (key hr),fun j hj=>(h.cells j hj).kept hg (key (hB j hj)),h.small,h.apart⟩
theorem findColumns_any (S:SheetF) (G P base:Nat) (SC:Array Value) (cv:Value) (Kb:Nat) (V:Nat→Value) (Qp:Nat→Nat→List ModF) (Qm:Nat→Nat→ModF) (Pv:Nat→Nat→Value) (pre:List UInt8) (ra:Option Addr) (rcap:Nat) (r:List KeyB) (w:World)
  (hS:SheetGo S G P base w SC cv Kb V Qp Qm Pv) (hpre:pre.length≤20) (hr:ringOkB r=true) (hrm:r.length≤maxLen) (hl:LiesK w ra r) :
  Calls Tryz.prog 43 #[.agg SC,strB pre,.slice ra r.length rcap] w fun e w'=>Below w.heap.size w w'∧∃ v Vs,e=.returned v∧FoundsAt w.heap.size w' v (foundF pre r S) S.cols.length Vs:=by
 obtain ⟨i0,hi,hz0,hz1,hz2⟩:=info_parts Tryz.infoFound
 have hn6:=hS.n6
 have HFC:=hid (fun c hc w' (hb:Below w.heap.size w w')=>findCells_any S G P base SC cv Kb V Qp Qm Pv pre ra rcap r c w' (hS.later hb) hc hpre hr hrm (hl.later hb))
 have Hinf:=hid hS.inf
 have HFN:Hid (∀ c,(foundF pre r S c).name=(colAt S.cols c).name∧(foundF pre r S c).kind=(colAt S.cols c).kind∧(foundF pre r S c).key=(colAt S.cols c).key):=fun c=>by
  unfold foundF
  split
  ·exact ⟨rfl,rfl,rfl⟩
  ·split<;>exact ⟨rfl,rfl,rfl⟩
 have HCA:=hid (fun c (hc:c < S.cols.length) w' (hb:Below w.heap.size w w')=>cols_at (own_laterX hS.cols hb) hc)
 obtain ⟨ca,cc,rfl⟩:=own_slice hS.cols
 have HCO:=hid (fun w'=>columns_any SC ca S.cols.length cc w' hS.c15)
 clear hS hpre hr hl
 generalize foundF pre r S=F at *
 generalize S.cols.length=n at *
 obtain ⟨hb0,hl0,_,ho0⟩:=boxedW w SC 120
 have HB0:=hid hb0
 have Ho0:=hid ho0
 clear hb0 ho0
 go_enter Tryz.func43,Tryz.ntmps43
 go_upto_region 2 with fail
 generalize w.alloc _=W0 at *
 go_wp2_with (refine wpList_load_row rfl 120 (.tmp 3) rfl w.heap.size rfl 120 SC (0,0) _ Ho0.out Tryz.underlying120 rfl Hinf.out ?_)
 refine (HCO.out W0).mono ?_
 rintro e w1 ⟨rfl,hb1⟩
 have HB1:=hid (HB0.out.trans (hb1.mono HB0.out.size))
 have Ho1:=hid (heap_later hb1 Ho0.out)
 clear hb1 HCO Ho0 HB0
 go_wp2
 go_loopw [7,14] (fun v i wr=>∃ (k:Nat) (Vs:Nat→Value),k≤n∧i=.int .i64 (k:Int)∧FoundsAt w.heap.size wr v F k Vs∧wr.heap[w.heap.size]?=some (.cells SC 120 (0,0))∧Below w.heap.size w wr) (fun _ i _=>n - (intOf i).toNat)
 case atStart=>exact ⟨0,fun _=>.slice none 0 0,Nat.zero_le _,rfl,⟨World.ownsRow_nil _ _ _ _,fun j hj=>absurd hj (by omega),fun j hj=>absurd hj (by omega),fun i j _ hj=>absurd hj (by omega)⟩,Ho1.out,HB1.out⟩
 case round =>
  obtain ⟨k,Vs,hkn,rfl,hfa,hq,hB⟩:=hrel
  have HFA:=hid hfa
  have Hq:=hid hq
  have HB:=hid hB
  have hwz:=hB.size
  obtain ⟨va,vc,rfl⟩:=own_slice hfa.row
  clear hfa hq hB
  by_cases hlt:k < n
  ·have hki:(k:Int) < (n:Int):=by omega
   obtain ⟨cb,cc2,hca,hcb,k0,k1,k2,k3⟩:=HCA.out k hlt wr HB.out
   injection hca with hca1 _ hca3
   subst hca1 hca3
   have HFNk:=hid (HFN.out k)
   have HFCk:=hid (fun w'=>HFC.out k hlt w')
   clear HFN HFC HCA
   generalize (colAt S.cols k).name=nm at *
   generalize (colAt S.cols k).kind=kd at *
   generalize (colAt S.cols k).key=ky at *
   obtain ⟨hbx,hsx,hcx,hhx⟩:=boxedW wr #[strB nm,.int .i64 kd,.int .i64 ky,.slice none 0 0] 61
   have x0:=hcx 0
   have x1:=hcx 1
   have x2:=hcx 2
   simp only [List.getElem?_toArray,List.getElem?_cons_zero,List.getElem?_cons_succ] at x0 x1 x2
   clear hcx hhx
   go_upto_region 6 with fail
   clear x0 x1 x2 k0 k1 k2 k3 hbx hsx
   obtain ⟨hby,hly,_,hhy⟩:=boxes2 wr #[strB nm,.int .i64 kd,.int .i64 ky,.slice none 0 0] 61 #[strB nm,.int .i64 kd,.int .i64 ky,.int .i64 0,.slice none 0 0] 91
   have HBy:=hid hby
   have Hqy:=hid (heap_later hby Hq.out)
   have Hfy:=hid hhy
   have HFAy:=hid (HFA.out.later hby)
   clear hby hhy hly
   generalize hwy:(wr.alloc _).alloc _=wy at *
   clear hwy
   go_wp2_with (refine wpList_load_row rfl 120 (.tmp 3) rfl w.heap.size rfl 120 SC (0,0) _ Hqy.out Tryz.underlying120 rfl Hinf.out ?_)
   refine (HFCk.out wy (HB.out.trans (HBy.out.mono hwz))).mono ?_
   rintro e w2 ⟨hb2,u,rfl,hsm2,hown2⟩
   have HB2:=hid (HBy.out.trans (hb2.mono HBy.out.size))
   have Hq2:=hid (heap_later hb2 Hqy.out)
   have Hf2:=hid (heap_later hb2 Hfy.out)
   have HFA2:=hid (HFAy.out.later hb2)
   have HSM2:=hid hsm2
   have HO2:=hid hown2
   obtain ⟨ua,uc,rfl⟩:=own_slice hown2
   have c3:w2.cell? ⟨wr.heap.size+1,3,none⟩=some (.int .i64 0):=by rw [cell_of_heap Hf2.out];rfl
   have c4:w2.cell? ⟨wr.heap.size+1,4,none⟩=some (.slice none 0 0):=by rw [cell_of_heap Hf2.out];rfl
   have f3:=frozen_of_row w2 (wr.heap.size+1) 3 _ _ Hf2.out
   have f4:=frozen_of_row w2 (wr.heap.size+1) 4 _ _ Hf2.out
   clear hb2 hsm2 hown2
   go_upto_region 7 with fail
   clear c3 c4 f3 f4
   have hBy:wr.heap.size+1 < wy.heap.size:=(Array.getElem?_eq_some_iff.1 Hfy.out).1
   have h3:=heap_setCell_same w2 (wr.heap.size+1) 3 _ _ (.int .i64 (F k).state) Hf2.out
   have h4:=heap_setCell_same (w2.setCell ⟨wr.heap.size+1,3,none⟩ (.int .i64 (F k).state)) (wr.heap.size+1) 4 _ _ (.slice ua (F k).cells.length uc) h3
   have hgs:=grown_trans (set_grown w2 (wr.heap.size+1) 3 (.int .i64 (F k).state)) (set_grown (w2.setCell ⟨wr.heap.size+1,3,none⟩ (.int .i64 (F k).state)) (wr.heap.size+1) 4 (.slice ua (F k).cells.length uc))
   have Hf4:Hid (((w2.setCell ⟨wr.heap.size+1,3,none⟩ (.int .i64 (F k).state)).setCell ⟨wr.heap.size+1,4,none⟩ (.slice ua (F k).cells.length uc)).heap[wr.heap.size+1]?=some (.cells #[strB nm,.int .i64 kd,.int .i64 ky,.int .i64 (F k).state,.slice ua (F k).cells.length uc] 91 (0,0))):=h4
   have HLT:Hid (∀ j,j < k→∀ a,(Vs j).ownBlock=some a→a < wr.heap.size+1):=fun j hj a ha=>by
    have:=((HFA.out.cells j hj).lt a ha).2
    omega
   have HFA4:=hid (HFA2.out.past hgs (fun a ha=>by have:=(HFA.out.row.lt a ha).2;omega) HLT.out)
   have Hq4:=hid (grown_keeps hgs Hq2.out (by omega))
   have HO4:=hid (HO2.out.kept hgs (by
    rcases hv:(Value.slice ua (F k).cells.length uc).ownBlock with _|b
    ·exact .inl rfl
    ·refine .inr (fun e=>?_)
     have:=(HO2.out.lt b hv).1
     injection e with e
     omega))
   have HB4:=hid (HB2.out.trans (below_own hgs (by omega) HB2.out.size))
   clear h3 h4 hgs
   generalize (w2.setCell _ _).setCell _ _=w4 at *
   have hownA:=HFA4.out.row
   have hz4:=HB4.out.size
   go_wp2_with (first|(refine wpList_load_row rfl 91 (.tmp 10) rfl (wr.heap.size+1) rfl 91 _ (0,0) _ Hf4.out Tryz.underlying91 rfl (by kernel_rfl) ?_)|(at_builtin;refine wpList_append_own _ rfl (.tmp 36) (.tmp 38) 32 rfl w.heap.size 91 i0 (.agg #[.string ⟨#[]⟩,.int .i64 0,.int .i64 0,.int .i64 0,.slice none 0 0]) 5 64 Tryz.underlying32 hi hz0 hz1 hz2 rfl (by decide) _ _ _ rfl (hownA.alloc _) ⟨_,0,none⟩ 1 1 [strB nm,.int .i64 kd,.int .i64 ky,.int .i64 (F k).state,.slice ua (F k).cells.length uc] rfl rfl ?c1 ?c2 ?c3 ?c4 ?c5 ?_))
   case c1=>exact cell_laid_at w4 #[strB nm,.int .i64 kd,.int .i64 ky,.int .i64 (F k).state,.slice ua (F k).cells.length uc] 91 (by simp)
   case c2=>intro u hu;simp at hu;rcases hu with rfl|rfl|rfl|rfl|rfl<;>rfl
   case c3=>unfold maxLen;omega
   case c4=>omega
   case c5=>simp;omega
   intro v5 w5 hown5 hgr5 _
   have hba:Below w4.heap.size w4 (w4.alloc (.cells #[strB nm,.int .i64 kd,.int .i64 ky,.int .i64 (F k).state,.slice ua (F k).cells.length uc] 91)):=(Below.refl _ _).alloc (Nat.le_refl _) _
   obtain ⟨hn1,hn2,hn3⟩:=HFNk.out
   have HFA5:=hid ((HFA4.out.later hba).step (fun j hj a ha=>Nat.lt_trans (HLT.out j hj a ha) hBy) (own_laterX HO4.out hba) (Nat.le_trans hwz (by omega)) HSM2.out hgr5 (by
    unfold foundC
    rw [hn1,hn2,hn3]
    exact hown5))
   have Hq5:=hid (heap_grown_keep hgr5 (hownA.alloc _) (heap_later hba Hq4.out) (by decide))
   have HB5:=hid (((HB.out.trans (HB4.out.mono hwz)).trans (hba.mono (by omega))).grown hgr5 (by simp;omega) (fun k hk=>(hownA.lt k hk).1))
   clear hown5 hgr5 hba hownA hn1 hn2 hn3
   go_wp2
   go_roundw
   case rel=>exact ⟨k+1,_,by omega,by go_num,HFA5.out,Hq5.out,HB5.out⟩
   case measure=>simp [intOf];omega
  ·have hke:k=n:=by omega
   subst hke
   clear hlt
   go_wp2
   go_ret
   exact ⟨HB.out,_,Vs,rfl,HFA.out⟩
theorem sheetF_ok {file pre:List UInt8} {r:List KeyB} {trust:Bool} {S:SheetF} (h:sheetF file pre r trust=(0,some S)):pre.length≤20∧ringOkB r=true∧∃ foot parts footer,SheetOk foot parts footer S:=by
 unfold sheetF at h
 split at h
 ·simp at h
 split at h
 ·simp at h
 rename_i h1 h2
 refine ⟨by omega,by simpa using h2,?_⟩
 split at h
 ·simp at h
 rename_i f hf
 split at h
 ·split at h
  ·simp at h
  ·rename_i S' hS
   refine ⟨_,_,_,sheetAt_ok (hS.trans ?_)⟩
   split at h
   ·simp at h;rw [h]
   ·split at h
    ·simp at h
    ·split at h
     ·simp at h;rw [h]
     ·simp at h
 ·split at h
  ·simp at h
  ·split at h
   ·simp at h
   ·split at h
    ·simp at h
    ·rename_i S' hS
     simp at h
     exact ⟨_,_,_,sheetAt_ok (hS.trans (by rw [h]))⟩
def ReadX (file pre:List UInt8) (r:List KeyB) (trust:Bool) (w:World) (e:Ending) (w':World):Prop :=
 Below w.heap.size w w'∧((∃ err,sheetF file pre r trust=(err,none)∧err≠0∧e=.returned (.tuple #[.slice none 0 0,.int .i64 err])) ∨
  ∃ S v Vs,sheetF file pre r trust=(0,some S)∧e=.returned (.tuple #[v,.int .i64 0])∧FoundsAt w.heap.size w' v (foundF pre r S) S.cols.length Vs)
theorem readP_any (file pre:List UInt8) (ra:Option Addr) (rcap:Nat) (r:List KeyB) (trust:Bool) (w:World) (hfl:file.length≤maxLen) (hpl:pre.length≤maxLen) (hrm:r.length≤maxLen) (hl:LiesK w ra r) :
  Calls Tryz.prog 30 #[strB file,strB pre,.slice ra r.length rcap,.bool trust] w (ReadX file pre r trust w):=by
 have HRS:=hid (readSheet_any file pre ra rcap r trust w hfl hpl hrm hl)
 have HFC:=hid (fun S G P base SC cv Kb V Qp Qm Pv w' (hb:Below w.heap.size w w') h1 h2 h3=>findColumns_any S G P base SC cv Kb V Qp Qm Pv pre ra rcap r w' h1 h2 h3 hrm (hl.later hb))
 have HOK:=hid (fun S=>sheetF_ok (file:=file) (pre:=pre) (r:=r) (trust:=trust) (S:=S))
 clear hfl hpl hrm hl
 go_enter Tryz.func30,Tryz.ntmps30
 go_wp2_with fail
 refine HRS.out.mono ?_
 clear HRS
 rintro e w1 ⟨f,_,hb1,⟨err,CC,hn,herr,hsz,hone,rfl⟩|⟨S,cv,pv,Kb,V,Qp,Qm,Pv,hn,rfl,hin⟩⟩
 ·have hinf:(Tryz.prog.info? 120).map (·.size)=some CC.size:=by rw [hsz];kernel_rfl
  have hsz0:sheet0.size=CC.size:=by rw [hsz];rfl
  obtain ⟨hbA,hlA,_,hoA⟩:=boxedW w1 sheet0 120
  have gA:=setRow_grown (w1.alloc (.cells sheet0 120)) w1.heap.size CC
  have HBA:=hid ((hb1.trans (hbA.mono hb1.size)).trans (below_own gA hb1.size (Nat.le_trans hb1.size hbA.size)))
  have HN:=hid hn
  have Herr:=hid herr
  have hne:(err != 0)=true:=by rw [bne_iff_ne];exact herr
  clear hsz hn herr hbA gA hb1
  go_wp2_with (refine wpList_store_row rfl 120 (.tmp 10) (.tmp 18) rfl w1.heap.size CC rfl rfl 120 sheet0 hoA hinf hsz0 hone ?_)
  go_ret2
  exact ⟨HBA.out,.inl ⟨err,HN.out,Herr.out,rfl⟩⟩
 ·obtain ⟨h20,hring,foot,parts,footer,hok⟩:=HOK.out S hn
  obtain ⟨_,hsz,hone⟩:=hin.one
  obtain ⟨hbA,hlA,_,hoA⟩:=boxedW w1 sheet0 120
  have gA:=setRow_grown (w1.alloc (.cells sheet0 120)) w1.heap.size (sheetC S f cv pv Kb)
  have oA:=setRow_heap (w1.alloc (.cells sheet0 120)) w1.heap.size _ (sheetC S f cv pv Kb) 120 (0,0) hoA
  have hbB:=(hb1.trans (hbA.mono hb1.size)).trans (below_own gA hb1.size (Nat.le_trans hb1.size hbA.size))
  have HBA:=hid hbB
  have hGO:=sheetGo ((hin.later hbA).grown gA hoA (by decide) (by decide) (by decide) (by decide)) hok
  have HFX:=hid (HFC.out S _ _ _ _ _ _ _ _ _ _ _ hbB hGO h20 hring)
  have HN:=hid hn
  clear hn hin hok hbA hbB gA hb1 hGO HOK HFC
  generalize sheetC S f cv pv Kb=CC at *
  have hinf:(Tryz.prog.info? 120).map (·.size)=some CC.size:=by rw [hsz];kernel_rfl
  have hsz0:sheet0.size=CC.size:=by rw [hsz];rfl
  clear hsz
  have HINF:=hid hinf
  have HSZ:=hid hsz0
  have HONE:=hid hone
  have HOA:=hid hoA
  have HoA:=hid oA
  clear hinf hsz0 hone hoA oA
  go_wp2_with (first|(refine wpList_store_row rfl 120 (.tmp 10) (.tmp 18) rfl w1.heap.size CC rfl rfl 120 sheet0 HOA.out HINF.out HSZ.out HONE.out ?_)|(refine wpList_load_row rfl 120 (.tmp 10) rfl w1.heap.size rfl 120 CC (0,0) _ HoA.out Tryz.underlying120 rfl HINF.out ?_))
  refine HFX.out.mono ?_
  clear HFX HoA HOA
  generalize (w1.alloc _).setRow _ _=w2 at *
  rintro e w3 ⟨hb3,v,Vs,rfl,hfa⟩
  have HB3:=hid (HBA.out.trans (hb3.mono HBA.out.size))
  have HFA:=hid (hfa.lower HBA.out.size)
  obtain ⟨va,vc,rfl⟩:=own_slice hfa.row
  clear hb3 hfa
  go_wp2
  go_ret2
  exact ⟨HB3.out,.inr ⟨S,_,Vs,HN.out,rfl,HFA.out⟩⟩
end
section
instance decCellB:DecidableEq CellB:=fun a b=>decidable_of_iff (a.null=b.null∧a.int=b.int∧a.text=b.text) ⟨fun ⟨h1,h2,h3⟩=>by cases a;cases b;simp_all,fun h=>by subst h;exact ⟨rfl,rfl,rfl⟩⟩
theorem below_drewK {B:Nat} {w w':World} (h:Below B w w'):Below B w w'.drew:=⟨h.os,h.tape,h.output,h.size,h.block⟩
theorem take_eq_stepC {α:Type} {l m:List α} {k:Nat} (hk:k < l.length) (hk2:k < m.length) (h:l.take k=m.take k) (he:l[k]=m[k]):l.take (k+1)=m.take (k+1):=by
 rw [List.take_succ_eq_append_getElem hk,List.take_succ_eq_append_getElem hk2,h,he]
structure LiesF (w:World) (a:Option Addr) (F:Nat→FoundB) (n:Nat):Prop where
 at_:0 < n→∃ b,a=some ⟨b,0,none⟩∧b < w.heap.size∧∀ j,j < n→∃ ca cc,
  w.cell? ⟨b,j*5,none⟩=some (strB (F j).name)∧w.cell? ⟨b,j*5+1,none⟩=some (.int .i64 (F j).kind)∧w.cell? ⟨b,j*5+2,none⟩=some (.int .i64 (F j).key)∧w.cell? ⟨b,j*5+3,none⟩=some (.int .i64 (F j).state) ∧
  w.cell? ⟨b,j*5+4,none⟩=some (.slice ca (F j).cells.length cc)∧Lies w ca (F j).cells∧(F j).cells.length≤1000
theorem LiesF.later {w w':World} {a:Option Addr} {F:Nat→FoundB} {n:Nat} (h:LiesF w a F n) (hb:Below w.heap.size w w'):LiesF w' a F n:=by
 refine ⟨fun hne=>?_⟩
 obtain ⟨b,ha,hlt,hc⟩:=h.at_ hne
 refine ⟨b,ha,Nat.lt_of_lt_of_le hlt hb.size,fun j hj=>?_⟩
 obtain ⟨ca,cc,h1,h2,h3,h4,h5,h6,h7⟩:=hc j hj
 exact ⟨ca,cc,(hb.cell (p:=⟨b,_,none⟩) hlt).trans h1,(hb.cell (p:=⟨b,_,none⟩) hlt).trans h2,(hb.cell (p:=⟨b,_,none⟩) hlt).trans h3,(hb.cell (p:=⟨b,_,none⟩) hlt).trans h4,(hb.cell (p:=⟨b,_,none⟩) hlt).trans h5,h6.later hb,h7⟩
theorem foundsC_at {F:Nat→FoundB} {Vs:Nat→Value} {n j:Nat} (hj:j < n) {i:Nat} (hi:i < 5):(foundsC F Vs n)[j*5+i]?=(foundC (F j) (Vs j))[i]?:=by
 unfold foundsC
 rw [List.flatMap_def,flatten_at (s:=5) _ hi]
 ·rw [List.getElem?_map,List.getElem?_range hj];rfl
 ·intro x hx
  simp only [List.mem_map] at hx
  obtain ⟨k,_,rfl⟩:=hx
  rfl
theorem FoundsAt.lies {base:Nat} {w:World} {v:Value} {F:Nat→FoundB} {n:Nat} {Vs:Nat→Value} (h:FoundsAt base w v F n Vs) (hlen:∀ j,j < n→(F j).cells.length≤1000):∃ a cap,v=.slice a n cap∧LiesF w a F n:=by
 rcases h.row.2 with ⟨hv,h0⟩|⟨g,cap,cur,hv,_⟩
 ·exact ⟨none,0,by rw [hv,h0],⟨fun hn=>by omega⟩⟩
 ·have hrow:=h.row
  subst hv
  refine ⟨some ⟨g,0,none⟩,cap,rfl,⟨fun _=>⟨g,rfl,(hrow.lt g rfl).2,fun j hj=>?_⟩⟩⟩
  obtain ⟨ca,cc,hvs,_,hl⟩:=own_lies (h.cells j hj) (fun x hx=>⟨(h.small j hj x hx).1,(h.small j hj x hx).2.1,Nat.le_trans (h.small j hj x hx).2.2 (by decide)⟩)
  refine ⟨ca,cc,?_,?_,?_,?_,?_,hl,hlen j hj⟩
  ·rw [hrow.cellAt _ (by omega)];exact foundsC_at (i:=0) hj (by omega)
  ·rw [hrow.cellAt _ (by omega)];exact foundsC_at (i:=1) hj (by omega)
  ·rw [hrow.cellAt _ (by omega)];exact foundsC_at (i:=2) hj (by omega)
  ·rw [hrow.cellAt _ (by omega)];exact foundsC_at (i:=3) hj (by omega)
  ·rw [hrow.cellAt _ (by omega),← hvs];exact foundsC_at (i:=4) hj (by omega)
def FoundShort:Prop:=∀ (file pre:List UInt8) (r:List KeyB) (trust:Bool) (S:SheetF),sheetF file pre r trust=(0,some S)→S.cols.length≤1000∧∀ j,j < S.cols.length→(foundF pre r S j).cells.length≤1000
theorem found_short:FoundShort:=by
 intro file pre r trust S h
 obtain ⟨_,_,foot,parts,footer,hok⟩:=sheetF_ok h
 have hp:=hok.plan
 simp only [planOkB,Bool.and_eq_true,decide_eq_true_eq] at hp
 have hh:=hok.heads
 simp only [headsOkB,Bool.and_eq_true,decide_eq_true_eq] at hh
 refine ⟨by omega,fun j hj=>?_⟩
 have hml:=modsOk_len hok.mods
 unfold foundF
 split
 ·exact Nat.zero_le _
 ·split
  ·exact Nat.zero_le _
  ·rename_i cells hc
   have:=(cells_there pre r (colAt S.cols j).kind (colAt S.cols j).key (R:=S.rows) (C:=S.cols.length) (G:=S.plan.group.toNat) (P:=S.plan.page.toNat) (c:=j) hj (by omega) (by omega) (M:=S.mods) hml (i:=(spotsF S).length) (cells:=cells) (by
    show cellsF _ _ _ _ _ _ ((spotsF S).take _) (S.mods.take _)=_
    rw [List.take_length,← hml,List.take_length]
    exact hc)).1
   have:=hok.rows
   simp only
   omega
end
end Go.Proofs.YthhpbhpfagoapaaGreat
