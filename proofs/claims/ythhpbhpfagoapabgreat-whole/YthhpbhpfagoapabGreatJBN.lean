import Derived.Test.YthhpbhpfagoapabGreatJBM
import Derived.Test.YthhpbhpfagoapabGreatJAT
import Derived.Test.YthhpbhpfagoapabGreatJBI
namespace Go.Proofs.YthhpbhpfagoapabGreat
set_option linter.unusedVariables false
set_option linter.unusedSimpArgs false
set_option maxRecDepth 100000
set_option maxHeartbeats 16000000
open Go.RowKit
section
def ZY (f:FormF) (has:Bool) (o:Option (List UInt8)):Value :=
 if has=false then .tuple #[strB [],.int .i64 8]
 else if f.told=true then (if o=some [] then .tuple #[strB f.footer,.int .i64 0] else .tuple #[strB [],.int .i64 4])
 else match o with
  | some p=>.tuple #[strB p,.int .i64 0]
  | none=>.tuple #[strB [],.int .i64 4]
theorem RV (f:FormF) (pre:List UInt8) (ra:Option Addr) (rcap:Nat) (r:List KeyB) (w:World) (hpre:pre.length≤20) (hf:f.footer.length≤5000) (hx:(qd pre f).length≤5000) (hnon:f.nonce.length≤1000) (hbody:f.body.length≤maxLen) (hr:xI r=true) (hrm:r.length≤maxLen) (hl:LiesK w ra r) :
  Calls Tryz.prog 75 #[formV f,strB pre,.slice ra r.length rcap] w fun e w'=>e=.returned (ZY f (jw r (f.foot:Int)) (xr (ji r (f.foot:Int)) f.nonce (qd pre f) f.body))∧Below w.heap.size w w':=by
 have hsec:(ji r (f.foot:Int)).length≤1000:=by
  cases hh:jw r (f.foot:Int) with
  | true=>rw [Qk hr hh];decide
  | false=>rw [(ZD hr).2 hh];decide
 have HUN:Hid (∀ w':World,Calls Tryz.prog 109 #[.agg #[.int .i64 (f.foot:Int),.bool f.told,strB f.footer,strB [if f.told=true then 83 else 70],.int .i64 0,.int .i64 0,.int .i64 0,strB f.nonce,strB f.body,strB (qg f)],strB (ji r (f.foot:Int)),strB pre] w' fun e w2=>e=.returned (NC f (xr (ji r (f.foot:Int)) f.nonce (qd pre f) f.body))∧Below w'.heap.size w' w2):=fun w'=>Ah f _ pre w' hpre hf hx hsec hnon hbody
 have HSE:=hid (fun w' (h:LiesK w' ra r)=>QW ra rcap r (f.foot:Int) w' hrm h)
 have HKV:Hid (∀ h o,ZY f h o=if h=false then .tuple #[strB [],.int .i64 8]
   else if f.told=true then (if o=some [] then .tuple #[strB f.footer,.int .i64 0] else .tuple #[strB [],.int .i64 4])
   else match o with
    | some p=>.tuple #[strB p,.int .i64 0]
    | none=>.tuple #[strB [],.int .i64 4]):=fun _ _=>rfl
 have HUV:Hid (∀ o,NC f o=if f.told=true then .tuple #[strB f.footer,.bool (decide (o=some []))] else GH o):=fun _=>rfl
 have Hl:=hid hl
 show Calls _ _ #[.agg #[.int .i64 (f.foot:Int),.bool f.told,strB f.footer,strB [if f.told=true then 83 else 70],.int .i64 0,.int .i64 0,.int .i64 0,strB f.nonce,strB f.body,strB (qg f)],strB pre,.slice ra r.length rcap] _ _
 generalize (if f.told=true then (83:UInt8) else 70)=sb at *
 generalize xr (ji r (f.foot:Int)) f.nonce (qd pre f) f.body=O at *
 generalize ji r (f.foot:Int)=sec at *
 generalize jw r (f.foot:Int)=has at *
 generalize f.told=T at *
 clear hpre hf hx hnon hbody hr hsec hl
 obtain ⟨hb0,hl0,_,ho0⟩:=jK w #[.int .i64 (f.foot:Int),.bool T,strB f.footer,strB [sb],.int .i64 0,.int .i64 0,.int .i64 0,strB f.nonce,strB f.body,strB (qg f)] 77
 obtain ⟨⟨x0,x1,x2,x3,x4,x5,x6,x7,x8,x9⟩,_⟩:=xE ho0
 go_enter Tryz.func75,Tryz.ntmps75
 go_wp2_with fail
 generalize w.alloc _=W0 at *
 have HB0:=hid hb0
 have Ho0:=hid ho0
 have HL0:=hid (Hl.out.later hb0)
 clear hb0 ho0 x0 x1 x2 x3 x4 x5 x6 x7 x8 x9
 refine (HSE.out W0 HL0.out).mono ?_
 rintro e w1 ⟨rfl,hb1⟩
 have HB1:=hid (HB0.out.trans (hb1.mono HB0.out.size))
 obtain ⟨⟨x0,x1,x2,x3,x4,x5,x6,x7,x8,x9⟩,_⟩:=xE (jd hb1 Ho0.out)
 clear hb1
 cases has
 ·go_wp2
  go_ret2
  exact ⟨by rw [HKV.out];rfl,HB1.out⟩
 ·go_wp2_with fail
  refine (HUN.out w1).mono ?_
  rintro e w2 ⟨rfl,hb2⟩
  have HB2:=hid (HB1.out.trans (hb2.mono HB1.out.size))
  clear hb2 x0 x1 x2 x3 x4 x5 x6 x7 x8 x9
  rw [HUV.out]
  cases T
  ·rcases O with _|P
   all_goals
    simp only [GH,Bool.false_eq_true,if_false]
    go_wp2
    go_ret2
    exact ⟨by rw [HKV.out];rfl,HB2.out⟩
  ·by_cases hO:O=some []
   ·subst hO
    have hd:decide (some ([]:List UInt8)=some [])=true:=by simp
    have HK:Hid (ZY f true (some [])=.tuple #[strB f.footer,.int .i64 0]):=by show _=_;rw [HKV.out];rfl
    rw [hd]
    simp only [if_true]
    go_wp2
    go_ret2
    exact ⟨by rw [HK.out];rfl,HB2.out⟩
   ·have hd:decide (O=some [])=false:=decide_eq_false hO
    have HK:Hid (ZY f true O=.tuple #[strB [],.int .i64 4]):=by show _=_;rw [HKV.out];simp [hO]
    rw [hd]
    simp only [if_true]
    go_wp2
    go_ret2
    exact ⟨by rw [HK.out];rfl,HB2.out⟩
end
section
theorem Qg:sheet0.all (·.oneCell')=true:=by simp [Value.oneCell']
def Uj (res:Int × Option SheetF) (f:FormF) (w:World) (e:Ending) (w':World):Prop :=
 Below w.heap.size w w'∧((∃ err C,res=(err,none)∧err≠0∧C.size=18∧C.all (·.oneCell')=true∧e=.returned (.tuple #[.agg C,.int .i64 err])) ∨
  ∃ S cv pv Kb V Qp Qm Pv,res=(0,some S)∧e=.returned (.tuple #[.agg (qR S f cv pv Kb),.int .i64 0])∧SheetIn S f w.heap.size w' (.agg (qR S f cv pv Kb)) cv pv Kb V Qp Qm Pv)
def GS (f:FormF) (has:Bool) (o:Option (List UInt8)):Int × Option SheetF :=
 if has=false then (8,none)
 else match o with
  | none=>(4,none)
  | some footer=>match zh f.foot f.parts footer with
   | none=>(9,none)
   | some S=>(0,some S)
theorem NS (f:FormF) (pre:List UInt8) (ra:Option Addr) (rcap:Nat) (r:List KeyB) (w:World) (ht:f.told=false) (hah:(qg f).length≤65000) (hpre:pre.length≤20) (hf:f.footer.length≤5000) (hx:(qd pre f).length≤5000) (hnon:f.nonce.length≤1000) (hbody:f.body.length≤maxLen) (hr:xI r=true) (hrm:r.length≤maxLen) (hl:LiesK w ra r) :
  Calls Tryz.prog 44 #[formV f,strB pre,.slice ra r.length rcap] w (Uj (GS f (jw r (f.foot:Int)) (xr (ji r (f.foot:Int)) f.nonce (qd pre f) f.body)) f w):=by
 have HUN:Hid (∀ w':World,LiesK w' ra r→Calls Tryz.prog 75 #[.agg (formC f),strB pre,.slice ra r.length rcap] w' fun e w2=>e=.returned (ZY f (jw r (f.foot:Int)) (xr (ji r (f.foot:Int)) f.nonce (qd pre f) f.body))∧Below w'.heap.size w' w2):=fun w' h=>RV f pre ra rcap r w' hpre hf hx hnon hbody hr hrm h
 have HKV:Hid (∀ h o,ZY f h o=if h=false then .tuple #[strB [],.int .i64 8]
   else match o with
    | some p=>.tuple #[strB p,.int .i64 0]
    | none=>.tuple #[strB [],.int .i64 4]):=by
  intro h o
  unfold ZY
  rw [ht]
  rfl
 have HLY:Hid (∀ (p:List UInt8) (w':World),p.length≤maxLen→Calls Tryz.prog 74 #[.agg (formC f),strB p] w' (FK f p w')):=fun p w' hp=>RS f p w' hp hah
 have HOL:Hid (∀ p,xr (ji r (f.foot:Int)) f.nonce (qd pre f) f.body=some p→p.length≤maxLen):=by
  intro p hp
  obtain ⟨h1,h2⟩:=Zj hp
  have:=congrArg List.length h1
  rw [zc] at this
  unfold maxLen
  omega
 have Hl:=hid hl
 show Calls _ _ #[.agg (formC f),strB pre,.slice ra r.length rcap] _ _
 have HFV:Hid (formV f=.agg (formC f)):=rfl
 generalize xr (ji r (f.foot:Int)) f.nonce (qd pre f) f.body=O at *
 generalize jw r (f.foot:Int)=has at *
 generalize hFC:formC f=FC at *
 have HFC:=hid hFC
 have hFs:FC.size=10:=by rw [← hFC];rfl
 have hFo:FC.all (·.oneCell')=true:=by rw [← hFC];exact UF f
 have hFi:(Tryz.prog.info? 77).map (·.size)=some FC.size:=by rw [hFs];kernel_rfl
 clear hpre hf hx hnon hbody hr hl ht hah hFC hFs
 obtain ⟨hb0,hl0,ho0,hq0⟩:=JY w FC 77 sheet0 82
 go_enter Tryz.func44,Tryz.ntmps44
 go_wp2_with (refine wpList_load_row rfl 77 (.tmp 3) rfl w.heap.size rfl 77 FC (0,0) _ ho0 Tryz.underlying77 rfl hFi ?_)
 have HL0:=hid (Hl.out.later hb0)
 generalize (w.alloc _).alloc _=W0 at *
 have HB0:=hid hb0
 have Ho0:=hid ho0
 have Hq0:=hid hq0
 clear hb0 ho0 hq0
 refine (HUN.out W0 HL0.out).mono ?_
 rintro e w1 ⟨rfl,hb1⟩
 have HB1:=hid (HB0.out.trans (hb1.mono HB0.out.size))
 have Ho1:=hid (jd hb1 Ho0.out)
 have Hq1:=hid (jd hb1 Hq0.out)
 have hz1:=hb1.size
 clear hb1
 rw [HKV.out]
 cases has
 ·simp only [if_true]
  go_wp2_with (refine wpList_store_row rfl 82 (.tmp 6) (.tmp 19) rfl (w.heap.size+1) sheet0 rfl rfl 82 sheet0 Hq1.out (by kernel_rfl) rfl (by simp [Value.oneCell']) ?_)
  have HoF:=hid (setRow_heap w1 (w.heap.size+1) _ sheet0 82 (0,0) Hq1.out)
  have HBF:=hid (HB1.out.trans (jq (jy w1 (w.heap.size+1) sheet0) (by omega) HB1.out.size))
  generalize w1.setRow _ _=WF at *
  exact bodyPost_ret (v:=.tuple #[.agg sheet0,.int .i64 8]) (qY (p:=6) (q:=7) rfl _ _ _ _ _ rfl rfl (run_loadVar_row (P:=Tryz.prog) WF (w.heap.size+1) 82 82 sheet0 (0,0) _ HoF.out Tryz.underlying82 rfl (by kernel_rfl))) rfl ⟨HBF.out,.inl ⟨8,sheet0,rfl,by decide,rfl,Qg,rfl⟩⟩
 ·simp only [Bool.true_eq_false,if_false]
  rcases O with _|P
  ·go_wp2_with (refine wpList_store_row rfl 82 (.tmp 6) (.tmp 19) rfl (w.heap.size+1) sheet0 rfl rfl 82 sheet0 Hq1.out (by kernel_rfl) rfl (by simp [Value.oneCell']) ?_)
   have HoF:=hid (setRow_heap w1 (w.heap.size+1) _ sheet0 82 (0,0) Hq1.out)
   have HBF:=hid (HB1.out.trans (jq (jy w1 (w.heap.size+1) sheet0) (by omega) HB1.out.size))
   generalize w1.setRow _ _=WF at *
   exact bodyPost_ret (v:=.tuple #[.agg sheet0,.int .i64 4]) (qY (p:=6) (q:=7) rfl _ _ _ _ _ rfl rfl (run_loadVar_row (P:=Tryz.prog) WF (w.heap.size+1) 82 82 sheet0 (0,0) _ HoF.out Tryz.underlying82 rfl (by kernel_rfl))) rfl ⟨HBF.out,.inl ⟨4,sheet0,rfl,by decide,rfl,Qg,rfl⟩⟩
  ·have hPl:=HOL.out P rfl
   have HPl:=hid hPl
   clear hPl HOL
   go_wp2_with (refine wpList_load_row rfl 77 (.tmp 3) rfl w.heap.size rfl 77 FC (0,0) _ Ho1.out Tryz.underlying77 rfl hFi ?_)
   refine (HLY.out P w1 HPl.out).mono ?_
   rintro e w2 ⟨hb2,⟨hn,rfl⟩|⟨S,cv,pv,Kb,V,Qp,Qm,Pv,hS,hok,rfl,hin⟩⟩
   ·have HN:Hid (GS f true (some P)=(9,none)):=by show _=_;unfold GS;rw [if_neg (by decide)];simp only [hn]
    have HB2:=hid (HB1.out.trans (hb2.mono HB1.out.size))
    have Hq2:=hid (jd hb2 Hq1.out)
    clear hb2 hn
    go_wp2_with (refine wpList_store_row rfl 82 (.tmp 6) (.tmp 24) rfl (w.heap.size+1) sheet0 rfl rfl 82 sheet0 Hq2.out (by kernel_rfl) rfl (by simp [Value.oneCell']) ?_)
    have HoF:=hid (setRow_heap w2 (w.heap.size+1) _ sheet0 82 (0,0) Hq2.out)
    have HBF:=hid (HB2.out.trans (jq (jy w2 (w.heap.size+1) sheet0) (by omega) HB2.out.size))
    generalize w2.setRow _ _=WF at *
    exact bodyPost_ret (v:=.tuple #[.agg sheet0,.int .i64 9]) (qY (p:=6) (q:=7) rfl _ _ _ _ _ rfl rfl (run_loadVar_row (P:=Tryz.prog) WF (w.heap.size+1) 82 82 sheet0 (0,0) _ HoF.out Tryz.underlying82 rfl (by kernel_rfl))) rfl ⟨HBF.out,.inl ⟨9,sheet0,HN.out,by decide,rfl,Qg,rfl⟩⟩
   ·have HN:Hid (GS f true (some P)=(0,some S)):=by show _=_;unfold GS;rw [if_neg (by decide)];simp only [hS]
    have HB2:=hid (HB1.out.trans (hb2.mono HB1.out.size))
    have Hq2:=hid (jd hb2 Hq1.out)
    obtain ⟨_,hsz,hone⟩:=hin.one
    have HIN:=hid (hin.lower (b:=w.heap.size) HB1.out.size)
    clear hb2 hS hok hin
    generalize hCC:qR S f cv pv Kb=CC at *
    have HCC:=hid hCC
    clear hCC
    have hinf:(Tryz.prog.info? 82).map (·.size)=some CC.size:=by rw [hsz];kernel_rfl
    have hsz0:sheet0.size=CC.size:=by rw [hsz];rfl
    clear hsz
    go_wp2_with (refine wpList_store_row rfl 82 (.tmp 6) (.tmp 24) rfl (w.heap.size+1) CC rfl rfl 82 sheet0 Hq2.out hinf hsz0 hone ?_)
    have HoF:=hid (setRow_heap w2 (w.heap.size+1) _ CC 82 (0,0) Hq2.out)
    have HBF:=hid (HB2.out.trans (jq (jy w2 (w.heap.size+1) CC) (by omega) HB2.out.size))
    have HIF:=hid (HIN.out.grown (jy w2 (w.heap.size+1) CC) Hq2.out (by decide) (by decide) (by decide) (by decide))
    generalize w2.setRow _ _=WF at *
    exact bodyPost_ret (v:=.tuple #[.agg CC,.int .i64 0]) (qY (p:=6) (q:=7) rfl _ _ _ _ _ rfl rfl (run_loadVar_row (P:=Tryz.prog) WF (w.heap.size+1) 82 82 CC (0,0) _ HoF.out Tryz.underlying82 rfl hinf)) rfl ⟨HBF.out,.inr ⟨S,cv,pv,Kb,V,Qp,Qm,Pv,HN.out,by rw [HCC.out],by rw [HCC.out];exact HIF.out⟩⟩
end
section
open Classical in
def Ko (f:FormF) (has:Bool) (o:Option (List UInt8)) (trust:Bool):Int × Option SheetF :=
 match zh f.foot f.parts f.footer with
 | none=>(9,none)
 | some S=>if trust=true then (0,some S) else if has=false then (8,none) else if o=some [] then (0,some S) else (4,none)
theorem Iz (f:FormF) (pre:List UInt8) (ra:Option Addr) (rcap:Nat) (r:List KeyB) (trust:Bool) (w:World) (ht:f.told=true) (hah:(qg f).length≤65000) (hfl:f.footer.length≤maxLen) (hpre:pre.length≤20) (hnon:f.nonce.length≤1000) (hbody:f.body.length≤maxLen) (hr:xI r=true) (hrm:r.length≤maxLen) (hl:LiesK w ra r) :
  Calls Tryz.prog 43 #[formV f,strB pre,.slice ra r.length rcap,.bool trust] w (Uj (Ko f (jw r (f.foot:Int)) (xr (ji r (f.foot:Int)) f.nonce (qd pre f) f.body) trust) f w):=by
 have HUN:Hid (f.footer.length≤4200→∀ w':World,LiesK w' ra r→Calls Tryz.prog 75 #[.agg (formC f),strB pre,.slice ra r.length rcap] w' fun e w2=>e=.returned (ZY f (jw r (f.foot:Int)) (xr (ji r (f.foot:Int)) f.nonce (qd pre f) f.body))∧Below w'.heap.size w' w2):=fun hf w' h=>RV f pre ra rcap r w' hpre (by omega) (by
  have:=JO pre (if f.told=true then 83 else 70) 0 0 0 hpre
  unfold qd
  rw [List.length_append]
  omega) hnon hbody hr hrm h
 have HFL:Hid (∀ S,SheetOk f.foot f.parts f.footer S→f.footer.length≤4200):=fun S hS=>Xb (fun x hx=>by
  have h1:=Xo _ _ _ _ x hx
  rw [← hS.parts] at h1
  have h2:(qg f).length=4+f.parts.length:=(Zf f).2.2
  omega) hS
 have HKV:Hid (∀ h o,ZY f h o=if h=false then .tuple #[strB [],.int .i64 8] else if o=some [] then .tuple #[strB f.footer,.int .i64 0] else .tuple #[strB [],.int .i64 4]):=by
  intro h o
  unfold ZY
  rw [ht]
  rfl
 have HLY:Hid (∀ w':World,Calls Tryz.prog 74 #[.agg (formC f),strB f.footer] w' (FK f f.footer w')):=fun w'=>RS f f.footer w' hfl hah
 have HTF:Hid (∀ h o,Ko f h o trust=match zh f.foot f.parts f.footer with
   | none=>(9,none)
   | some S=>if trust=true then (0,some S) else if h=false then (8,none) else if o=some [] then (0,some S) else (4,none)):=fun h o=>by unfold Ko;rfl
 have Hl:=hid hl
 show Calls _ _ #[.agg (formC f),strB pre,.slice ra r.length rcap,.bool trust] _ _
 have HX2:Hid ((formC f)[2]?=some (strB f.footer)):=rfl
 generalize xr (ji r (f.foot:Int)) f.nonce (qd pre f) f.body=O at *
 generalize jw r (f.foot:Int)=has at *
 generalize hFC:formC f=FC at *
 have hFs:FC.size=10:=by rw [← hFC];rfl
 have hFi:(Tryz.prog.info? 77).map (·.size)=some FC.size:=by rw [hFs];kernel_rfl
 clear hpre hnon hbody hr hl ht hah hFC hFs hfl
 obtain ⟨hb0,hl0,ho0,hq0⟩:=JY w FC 77 sheet0 82
 have x2:((w.alloc (.cells FC 77)).alloc (.cells sheet0 82)).cell? ⟨w.heap.size,2,none⟩=some (strB f.footer):=by rw [jb ho0];exact HX2.out
 go_enter Tryz.func43,Tryz.ntmps43
 go_wp2_with (refine wpList_load_row rfl 77 (.tmp 4) rfl w.heap.size rfl 77 FC (0,0) _ ho0 Tryz.underlying77 rfl hFi ?_)
 have HL0:=hid (Hl.out.later hb0)
 generalize (w.alloc _).alloc _=W0 at *
 have HB0:=hid hb0
 have Ho0:=hid ho0
 have Hq0:=hid hq0
 clear hb0 ho0 hq0 x2
 refine (HLY.out W0).mono ?_
 rintro e w1 ⟨hb1,⟨hn,rfl⟩|⟨S,cv,pv,Kb,V,Qp,Qm,Pv,hS,hok,rfl,hin⟩⟩
 ·have HN:Hid (∀ h o,Ko f h o trust=(9,none)):=by intro h o;rw [HTF.out];simp only [hn]
  have HB1:=hid (HB0.out.trans (hb1.mono HB0.out.size))
  have Hq1:=hid (jd hb1 Hq0.out)
  have hz1:=hb1.size
  clear hb1 hn
  obtain ⟨hbA,hlA,_,hoA⟩:=jK w1 sheet0 82
  have gA:=jy (w1.alloc (.cells sheet0 82)) w1.heap.size sheet0
  have oA:=setRow_heap (w1.alloc (.cells sheet0 82)) w1.heap.size _ sheet0 82 (0,0) hoA
  have h3A:=jk gA (jd hbA Hq1.out) (by have:=(Array.getElem?_eq_some_iff.1 Hq1.out).1;omega)
  have HBA:=hid ((HB1.out.trans (hbA.mono HB1.out.size)).trans (jq gA HB1.out.size (Nat.le_trans HB1.out.size hbA.size)))
  go_wp2_with (first
   | (refine wpList_store_row rfl 82 (.tmp 10) (.tmp 17) rfl w1.heap.size sheet0 rfl rfl 82 sheet0 hoA (by kernel_rfl) rfl (by simp [Value.oneCell']) ?_)
   | (refine wpList_load_row rfl 82 (.tmp 10) rfl w1.heap.size rfl 82 sheet0 (0,0) _ oA Tryz.underlying82 rfl (by kernel_rfl) ?_)
   | (refine wpList_store_row rfl 82 (.tmp 8) (.tmp 32) rfl (w.heap.size+1) sheet0 rfl rfl 82 sheet0 h3A (by kernel_rfl) rfl (by simp [Value.oneCell']) ?_))
  show bodyPost _ _ _ _ _ (((w1.alloc (.cells sheet0 82)).setRow w1.heap.size sheet0).setRow (w.heap.size+1) sheet0)
  have H3A:=hid h3A
  clear hoA oA h3A gA hbA
  generalize (w1.alloc _).setRow _ _=w2 at *
  have HoF:=hid (setRow_heap w2 (w.heap.size+1) _ sheet0 82 (0,0) H3A.out)
  have HBF:=hid (HBA.out.trans (jq (jy w2 (w.heap.size+1) sheet0) (by omega) HBA.out.size))
  generalize w2.setRow _ _=WF at *
  exact bodyPost_ret (v:=.tuple #[.agg sheet0,.int .i64 9]) (qY (p:=8) (q:=9) rfl _ _ _ _ _ rfl rfl (run_loadVar_row (P:=Tryz.prog) WF (w.heap.size+1) 82 82 sheet0 (0,0) _ HoF.out Tryz.underlying82 rfl (by kernel_rfl))) rfl ⟨HBF.out,.inl ⟨9,sheet0,HN.out _ _,by decide,rfl,Qg,rfl⟩⟩
 ·have HTS:Hid (∀ h o,Ko f h o trust=if trust=true then (0,some S) else if h=false then (8,none) else if o=some [] then (0,some S) else (4,none)):=by intro h o;rw [HTF.out];simp only [hS]
  have HF4:=hid (HFL.out S hok)
  have HB1:=hid (HB0.out.trans (hb1.mono HB0.out.size))
  have Hq1:=hid (jd hb1 Hq0.out)
  have Ho1:=hid (jd hb1 Ho0.out)
  have hz1:=hb1.size
  obtain ⟨_,hsz,hone⟩:=hin.one
  have HIN:=hid (hin.lower (b:=w.heap.size) HB0.out.size)
  clear hb1 hS hok hin HTF HFL
  generalize hCC:qR S f cv pv Kb=CC at *
  have HCC:=hid hCC
  clear hCC
  have HSZ:=hid hsz
  have hinf:(Tryz.prog.info? 82).map (·.size)=some CC.size:=by rw [hsz];kernel_rfl
  have hsz0:sheet0.size=CC.size:=by rw [hsz];rfl
  clear hsz
  obtain ⟨hbA,hlA,_,hoA⟩:=jK w1 sheet0 82
  have hqlt:=(Array.getElem?_eq_some_iff.1 Hq1.out).1
  have gA:=jy (w1.alloc (.cells sheet0 82)) w1.heap.size CC
  have oA:=setRow_heap (w1.alloc (.cells sheet0 82)) w1.heap.size _ CC 82 (0,0) hoA
  have h3A:=jk gA (jd hbA Hq1.out) (by omega)
  have f3A:=jk gA (jd hbA Ho1.out) (by omega)
  have HBA:=hid ((HB1.out.trans (hbA.mono HB1.out.size)).trans (jq gA HB1.out.size (Nat.le_trans HB1.out.size hbA.size)))
  have HIA:=hid ((HIN.out.later hbA).grown gA hoA (by decide) (by decide) (by decide) (by decide))
  cases trust
  ·have HTS2:Hid (∀ h o,Ko f h o false=if h=false then (8,none) else if o=some [] then (0,some S) else (4,none)):=by intro h o;rw [HTS.out,if_neg (by decide)]
   go_wp2_with (first
    | (refine wpList_store_row rfl 82 (.tmp 10) (.tmp 17) rfl w1.heap.size CC rfl rfl 82 sheet0 hoA hinf hsz0 hone ?_)
    | (refine wpList_load_row rfl 77 (.tmp 4) rfl w.heap.size rfl 77 FC (0,0) _ f3A Tryz.underlying77 rfl hFi ?_))
   have HLA:=hid (Hl.out.later HBA.out)
   have H3A:=hid h3A
   have HoA:=hid oA
   clear hoA oA h3A f3A gA hbA
   show Calls _ _ _ ((w1.alloc (.cells sheet0 82)).setRow w1.heap.size CC) _
   generalize (w1.alloc _).setRow _ _=w2 at *
   refine (HUN.out HF4.out w2 HLA.out).mono ?_
   rintro e w3 ⟨rfl,hb3⟩
   have HBE:=hid (HBA.out.trans (hb3.mono HBA.out.size))
   have HqE:=hid (jd hb3 H3A.out)
   have HlE:=hid (jd hb3 HoA.out)
   have HIE:=hid (HIA.out.later hb3)
   clear hb3
   rw [HKV.out]
   cases has
   ·simp only [if_true]
    have HT:Hid (Ko f false O false=(8,none)):=by show _=_;rw [HTS2.out,if_pos rfl]
    go_wp2_with (first
    | (refine wpList_load_row rfl 82 (.tmp 10) rfl w1.heap.size rfl 82 CC (0,0) _ HlE.out Tryz.underlying82 rfl hinf ?_)
    | (refine wpList_store_row rfl 82 (.tmp 8) (.tmp 32) rfl (w.heap.size+1) CC rfl rfl 82 sheet0 HqE.out hinf hsz0 hone ?_))
    have HoF:=hid (setRow_heap w3 (w.heap.size+1) _ CC 82 (0,0) HqE.out)
    have HBF:=hid (HBE.out.trans (jq (jy w3 (w.heap.size+1) CC) (by omega) HBE.out.size))
    have HIF:=hid (HIE.out.grown (jy w3 (w.heap.size+1) CC) HqE.out (by decide) (by decide) (by decide) (by decide))
    generalize w3.setRow _ _=WF at *
    exact bodyPost_ret (v:=.tuple #[.agg CC,.int .i64 8]) (qY (p:=8) (q:=9) rfl _ _ _ _ _ rfl rfl (run_loadVar_row (P:=Tryz.prog) WF (w.heap.size+1) 82 82 CC (0,0) _ HoF.out Tryz.underlying82 rfl hinf)) rfl ⟨HBF.out,.inl ⟨8,CC,HT.out,by decide,HSZ.out,hone,rfl⟩⟩
   ·by_cases hO:O=some []
    ·have HT:Hid (Ko f true O false=(0,some S)):=by show _=_;rw [HTS2.out,if_neg (by decide),if_pos hO]
     rw [if_neg (by decide),if_pos hO]
     clear hO
     go_wp2_with (first
    | (refine wpList_load_row rfl 82 (.tmp 10) rfl w1.heap.size rfl 82 CC (0,0) _ HlE.out Tryz.underlying82 rfl hinf ?_)
    | (refine wpList_store_row rfl 82 (.tmp 8) (.tmp 32) rfl (w.heap.size+1) CC rfl rfl 82 sheet0 HqE.out hinf hsz0 hone ?_))
     have HoF:=hid (setRow_heap w3 (w.heap.size+1) _ CC 82 (0,0) HqE.out)
     have HBF:=hid (HBE.out.trans (jq (jy w3 (w.heap.size+1) CC) (by omega) HBE.out.size))
     have HIF:=hid (HIE.out.grown (jy w3 (w.heap.size+1) CC) HqE.out (by decide) (by decide) (by decide) (by decide))
     generalize w3.setRow _ _=WF at *
     exact bodyPost_ret (v:=.tuple #[.agg CC,.int .i64 0]) (qY (p:=8) (q:=9) rfl _ _ _ _ _ rfl rfl (run_loadVar_row (P:=Tryz.prog) WF (w.heap.size+1) 82 82 CC (0,0) _ HoF.out Tryz.underlying82 rfl hinf)) rfl ⟨HBF.out,.inr ⟨S,cv,pv,Kb,V,Qp,Qm,Pv,HT.out,by rw [HCC.out],by rw [HCC.out];exact HIF.out⟩⟩
    ·have HT:Hid (Ko f true O false=(4,none)):=by show _=_;rw [HTS2.out,if_neg (by decide),if_neg hO]
     rw [if_neg (by decide),if_neg hO]
     clear hO
     go_wp2_with (first
    | (refine wpList_load_row rfl 82 (.tmp 10) rfl w1.heap.size rfl 82 CC (0,0) _ HlE.out Tryz.underlying82 rfl hinf ?_)
    | (refine wpList_store_row rfl 82 (.tmp 8) (.tmp 32) rfl (w.heap.size+1) CC rfl rfl 82 sheet0 HqE.out hinf hsz0 hone ?_))
     have HoF:=hid (setRow_heap w3 (w.heap.size+1) _ CC 82 (0,0) HqE.out)
     have HBF:=hid (HBE.out.trans (jq (jy w3 (w.heap.size+1) CC) (by omega) HBE.out.size))
     have HIF:=hid (HIE.out.grown (jy w3 (w.heap.size+1) CC) HqE.out (by decide) (by decide) (by decide) (by decide))
     generalize w3.setRow _ _=WF at *
     exact bodyPost_ret (v:=.tuple #[.agg CC,.int .i64 4]) (qY (p:=8) (q:=9) rfl _ _ _ _ _ rfl rfl (run_loadVar_row (P:=Tryz.prog) WF (w.heap.size+1) 82 82 CC (0,0) _ HoF.out Tryz.underlying82 rfl hinf)) rfl ⟨HBF.out,.inl ⟨4,CC,HT.out,by decide,HSZ.out,hone,rfl⟩⟩
  ·have HT:Hid (Ko f has O true=(0,some S)):=by show _=_;rw [HTS.out,if_pos rfl]
   go_wp2_with (first
    | (refine wpList_store_row rfl 82 (.tmp 10) (.tmp 17) rfl w1.heap.size CC rfl rfl 82 sheet0 hoA hinf hsz0 hone ?_)
    | (refine wpList_load_row rfl 82 (.tmp 10) rfl w1.heap.size rfl 82 CC (0,0) _ oA Tryz.underlying82 rfl hinf ?_)
    | (refine wpList_store_row rfl 82 (.tmp 8) (.tmp 32) rfl (w.heap.size+1) CC rfl rfl 82 sheet0 h3A hinf hsz0 hone ?_))
   show bodyPost _ _ _ _ _ (((w1.alloc (.cells sheet0 82)).setRow w1.heap.size CC).setRow (w.heap.size+1) CC)
   have HqE:=hid h3A
   have HBE:=hid HBA.out
   have HIE:=hid HIA.out
   clear hoA oA h3A f3A gA hbA
   generalize (w1.alloc _).setRow _ _=w2 at *
   have HoF:=hid (setRow_heap w2 (w.heap.size+1) _ CC 82 (0,0) HqE.out)
   have HBF:=hid (HBE.out.trans (jq (jy w2 (w.heap.size+1) CC) (by omega) HBE.out.size))
   have HIF:=hid (HIE.out.grown (jy w2 (w.heap.size+1) CC) HqE.out (by decide) (by decide) (by decide) (by decide))
   generalize w2.setRow _ _=WF at *
   exact bodyPost_ret (v:=.tuple #[.agg CC,.int .i64 0]) (qY (p:=8) (q:=9) rfl _ _ _ _ _ rfl rfl (run_loadVar_row (P:=Tryz.prog) WF (w.heap.size+1) 82 82 CC (0,0) _ HoF.out Tryz.underlying82 rfl hinf)) rfl ⟨HBF.out,.inr ⟨S,cv,pv,Kb,V,Qp,Qm,Pv,HT.out,by rw [HCC.out],by rw [HCC.out];exact HIF.out⟩⟩
end
end Go.Proofs.YthhpbhpfagoapabGreat
