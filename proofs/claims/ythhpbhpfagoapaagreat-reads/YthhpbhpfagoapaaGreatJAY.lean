import Derived.Test.YthhpbhpfagoapaaGreatJAA
import Derived.Test.YthhpbhpfagoapaaGreatJAH
import Derived.Defers
import Derived.Recover
import Derived.Laws.Pointers
import Derived.Test.YthhpbhpfagoapaaGreatJAT
import Derived.Test.YthhpbhpfagoapaaGreatJBA
namespace Go.Proofs.YthhpbhpfagoapaaGreat
set_option linter.unusedVariables false
set_option linter.unusedSimpArgs false
set_option maxRecDepth 100000
set_option maxHeartbeats 16000000
open Go.RowKit
section
theorem Gt (p:Addr) (b:Bool) (u:TypeId) (pv:Value) (older:List PanicEntry) (w:World) (hc:w.cell? p=some (.bool b)) (hz:w.frozen? p=false) :
  CallsD Tryz.prog 129 #[.pointer (some p)] (.panicking ({ v:=.iface u pv,recovered:=false } :: older)) w fun e u' w' =>
   e=.returned (.tuple #[])∧u'=.panicking ({ v:=.iface u pv,recovered:=true } :: older)∧w'=w.setCell p (.bool false):=by
 refine callsD_of_wpS Tryz.func129 rfl fun c₀ cs hu=>?_
 apply wpS_region
 simp [wpOpsS,go_sem,recoverD,hu,Tryz.ntmps129,Exit.thenS,hc,hz,bodyPostS,results,Tryz.results129]
theorem Aj (p:Addr) (b:Bool) (w:World) (hc:w.cell? p=some (.bool b)) (hz:w.frozen? p=false) :
  CallsD Tryz.prog 129 #[.pointer (some p)] .returning w fun e u' w'=>e=.returned (.tuple #[])∧u'=.returning∧w'=w.setCell p (.bool true):=by
 refine callsD_of_wpS Tryz.func129 rfl fun c₀ cs hu=>?_
 apply wpS_region
 simp [wpOpsS,go_sem,recoverD,hu,Tryz.ntmps129,Exit.thenS,hc,hz,bodyPostS,results,Tryz.results129]
 cases c₀
 simp_all
theorem At (kind:Int) (s:List UInt8) (w:World) (hk:kind=0∨kind=1) (hs:s.length≤maxLen) :
  Calls Tryz.prog 70 #[.int .i64 kind,strB s] w (GK kind s w):=by
 have Hs:=hid hs
 clear hs
 rcases hk with rfl|rfl
 ·go_enter Tryz.func70,Tryz.ntmps70
  go_wp2_with fail
  refine (EO w).mono ?_
  rintro e w1 ⟨g,rfl,hg,hw,hb1⟩
  have Hw:=hid hw
  clear hw
  go_wp2_with fail
  refine (Ld g s _ Hs.out hg Hw.out).mono ?_
  rintro e w2 ⟨hb2,⟨rfl,hn⟩|⟨l,a,cap,rfl,hu,hl⟩⟩
  ·go_wp2
   exact ⟨rfl,hb1.trans (hb2.mono hb1.size),.inl ⟨rfl,hn⟩⟩
  ·have Hu:=hid hu
   clear hu
   go_wp2
   go_ret
   exact ⟨hb1.trans (hb2.mono hb1.size),.inr ⟨l,a,cap,rfl,Hu.out,hl⟩⟩
 ·go_enter Tryz.func70,Tryz.ntmps70
  go_wp2_with fail
  refine (Ca w).mono ?_
  rintro e w1 ⟨g,rfl,hg,hw,hb1⟩
  have Hw:=hid hw
  clear hw
  go_wp2_with fail
  refine (SY g s _ Hs.out hg Hw.out).mono ?_
  rintro e w2 ⟨hb2,⟨rfl,hn⟩|⟨l,a,cap,rfl,hu,hl⟩⟩
  ·go_wp2
   exact ⟨rfl,hb1.trans (hb2.mono hb1.size),.inl ⟨rfl,hn⟩⟩
  ·have Hu:=hid hu
   clear hu
   go_wp2
   go_ret
   exact ⟨hb1.trans (hb2.mono hb1.size),.inr ⟨l,a,cap,rfl,Hu.out,hl⟩⟩
end
section
def Zh (f:FormF) (has:Bool) (o:Option (List UInt8)):Value :=
 if has=false then .tuple #[strB [],.int .i64 8]
 else if f.told=true then (if o=some [] then .tuple #[strB f.footer,.int .i64 0] else .tuple #[strB [],.int .i64 4])
 else match o with
  | some p=>.tuple #[strB p,.int .i64 0]
  | none=>.tuple #[strB [],.int .i64 4]
theorem Nd (f:FormF) (pre:List UInt8) (ra:Option Addr) (rcap:Nat) (r:List KeyB) (w:World) (hpre:pre.length≤20) (hf:f.footer.length≤5000) (hx:(qJ pre f).length≤5000) (hnon:f.nonce.length≤1000) (hbody:f.body.length≤maxLen) (hr:xX r=true) (hrm:r.length≤maxLen) (hl:LiesK w ra r) :
  Calls Tryz.prog 161 #[formV f,strB pre,.slice ra r.length rcap] w fun e w'=>e=.returned (Zh f (jA r (f.foot:Int)) (qo (jm r (f.foot:Int)) f.nonce (qJ pre f) f.body))∧Below w.heap.size w w':=by
 have hsec:(jm r (f.foot:Int)).length≤1000:=by
  cases hh:jA r (f.foot:Int) with
  | true=>rw [QM hr hh];decide
  | false=>rw [(XP hr).2 hh];decide
 have HUN:Hid (∀ w':World,Calls Tryz.prog 231 #[.agg #[.int .i64 (f.foot:Int),.bool f.told,strB f.footer,strB [if f.told=true then 83 else 70],.int .i64 0,.int .i64 0,.int .i64 0,strB f.nonce,strB f.body,strB (qe f)],strB (jm r (f.foot:Int)),strB pre] w' fun e w2=>e=.returned (GE f (qo (jm r (f.foot:Int)) f.nonce (qJ pre f) f.body))∧Below w'.heap.size w' w2):=fun w'=>EK f _ pre w' hpre hf hx hsec hnon hbody
 have HSE:=hid (fun w' (h:LiesK w' ra r)=>NE ra rcap r (f.foot:Int) w' hrm h)
 have HKV:Hid (∀ h o,Zh f h o=if h=false then .tuple #[strB [],.int .i64 8]
   else if f.told=true then (if o=some [] then .tuple #[strB f.footer,.int .i64 0] else .tuple #[strB [],.int .i64 4])
   else match o with
    | some p=>.tuple #[strB p,.int .i64 0]
    | none=>.tuple #[strB [],.int .i64 4]):=fun _ _=>rfl
 have HUV:Hid (∀ o,GE f o=if f.told=true then .tuple #[strB f.footer,.bool (decide (o=some []))] else VS o):=fun _=>rfl
 have Hl:=hid hl
 show Calls _ _ #[.agg #[.int .i64 (f.foot:Int),.bool f.told,strB f.footer,strB [if f.told=true then 83 else 70],.int .i64 0,.int .i64 0,.int .i64 0,strB f.nonce,strB f.body,strB (qe f)],strB pre,.slice ra r.length rcap] _ _
 generalize (if f.told=true then (83:UInt8) else 70)=sb at *
 generalize qo (jm r (f.foot:Int)) f.nonce (qJ pre f) f.body=O at *
 generalize jm r (f.foot:Int)=sec at *
 generalize jA r (f.foot:Int)=has at *
 generalize f.told=T at *
 clear hpre hf hx hnon hbody hr hsec hl
 obtain ⟨hb0,hl0,_,ho0⟩:=qg w #[.int .i64 (f.foot:Int),.bool T,strB f.footer,strB [sb],.int .i64 0,.int .i64 0,.int .i64 0,strB f.nonce,strB f.body,strB (qe f)] 115
 obtain ⟨⟨x0,x1,x2,x3,x4,x5,x6,x7,x8,x9⟩,_⟩:=xg ho0
 go_enter Tryz.func161,Tryz.ntmps161
 go_wp2_with fail
 generalize w.alloc _=W0 at *
 have HB0:=hid hb0
 have Ho0:=hid ho0
 have HL0:=hid (Hl.out.later hb0)
 clear hb0 ho0 x0 x1 x2 x3 x4 x5 x6 x7 x8 x9
 refine (HSE.out W0 HL0.out).mono ?_
 rintro e w1 ⟨rfl,hb1⟩
 have HB1:=hid (HB0.out.trans (hb1.mono HB0.out.size))
 obtain ⟨⟨x0,x1,x2,x3,x4,x5,x6,x7,x8,x9⟩,_⟩:=xg (jb hb1 Ho0.out)
 clear hb1
 cases has
 ·go_wp2
  go_ret2
  exact ⟨by rw [HKV.out];rfl,HB1.out⟩
 ·go_wp2_with fail
  refine (HUN.out w1).mono ?_
  rintro e w2 ⟨rfl,hb2⟩
  have HB2:=hid (HB1.out.trans (hb2.mono HB1.out.size))
  clear hb2 x0 x1 x2 x3 x4 x5 x6 x7 x8 x9
  rw [HUV.out]
  cases T
  ·rcases O with _|P
   all_goals
    simp only [VS,Bool.false_eq_true,if_false]
    go_wp2
    go_ret2
    exact ⟨by rw [HKV.out];rfl,HB2.out⟩
  ·by_cases hO:O=some []
   ·subst hO
    have hd:decide (some ([]:List UInt8)=some [])=true:=by simp
    have HK:Hid (Zh f true (some [])=.tuple #[strB f.footer,.int .i64 0]):=by show _=_;rw [HKV.out];rfl
    rw [hd]
    simp only [if_true]
    go_wp2
    go_ret2
    exact ⟨by rw [HK.out];rfl,HB2.out⟩
   ·have hd:decide (O=some [])=false:=decide_eq_false hO
    have HK:Hid (Zh f true O=.tuple #[strB [],.int .i64 4]):=by show _=_;rw [HKV.out];simp [hO]
    rw [hd]
    simp only [if_true]
    go_wp2
    go_ret2
    exact ⟨by rw [HK.out];rfl,HB2.out⟩
end
section
theorem JZ:sheet0.all (·.oneCell')=true:=by simp [Value.oneCell']
def Km (res:Int × Option SheetF) (f:FormF) (w:World) (e:Ending) (w':World):Prop :=
 Below w.heap.size w w'∧((∃ err C,res=(err,none)∧err≠0∧C.size=18∧C.all (·.oneCell')=true∧e=.returned (.tuple #[.agg C,.int .i64 err])) ∨
  ∃ S cv pv Kb V Qp Qm Pv,res=(0,some S)∧e=.returned (.tuple #[.agg (zt S f cv pv Kb),.int .i64 0])∧SheetIn S f w.heap.size w' (.agg (zt S f cv pv Kb)) cv pv Kb V Qp Qm Pv)
noncomputable def VP (f:FormF) (has:Bool) (o:Option (List UInt8)):Int × Option SheetF :=
 if has=false then (8,none)
 else match o with
  | none=>(4,none)
  | some footer=>match xp f.foot f.parts footer with
   | none=>(9,none)
   | some S=>(0,some S)
theorem GS (f:FormF) (pre:List UInt8) (ra:Option Addr) (rcap:Nat) (r:List KeyB) (w:World) (ht:f.told=false) (hah:(qe f).length≤65000) (hpre:pre.length≤20) (hf:f.footer.length≤5000) (hx:(qJ pre f).length≤5000) (hnon:f.nonce.length≤1000) (hbody:f.body.length≤maxLen) (hr:xX r=true) (hrm:r.length≤maxLen) (hl:LiesK w ra r) :
  Calls Tryz.prog 100 #[formV f,strB pre,.slice ra r.length rcap] w (Km (VP f (jA r (f.foot:Int)) (qo (jm r (f.foot:Int)) f.nonce (qJ pre f) f.body)) f w):=by
 have HUN:Hid (∀ w':World,LiesK w' ra r→Calls Tryz.prog 161 #[.agg (formC f),strB pre,.slice ra r.length rcap] w' fun e w2=>e=.returned (Zh f (jA r (f.foot:Int)) (qo (jm r (f.foot:Int)) f.nonce (qJ pre f) f.body))∧Below w'.heap.size w' w2):=fun w' h=>Nd f pre ra rcap r w' hpre hf hx hnon hbody hr hrm h
 have HKV:Hid (∀ h o,Zh f h o=if h=false then .tuple #[strB [],.int .i64 8]
   else match o with
    | some p=>.tuple #[strB p,.int .i64 0]
    | none=>.tuple #[strB [],.int .i64 4]):=by
  intro h o
  unfold Zh
  rw [ht]
  rfl
 have HLY:Hid (∀ (p:List UInt8) (w':World),p.length≤maxLen→Calls Tryz.prog 160 #[.agg (formC f),strB p] w' (Lt f p w')):=fun p w' hp=>Ng f p w' hp hah
 have HOL:Hid (∀ p,qo (jm r (f.foot:Int)) f.nonce (qJ pre f) f.body=some p→p.length≤maxLen):=by
  intro p hp
  obtain ⟨h1,h2⟩:=Ns hp
  have:=congrArg List.length h1
  rw [Vd] at this
  unfold maxLen
  omega
 have Hl:=hid hl
 show Calls _ _ #[.agg (formC f),strB pre,.slice ra r.length rcap] _ _
 have HFV:Hid (formV f=.agg (formC f)):=rfl
 generalize qo (jm r (f.foot:Int)) f.nonce (qJ pre f) f.body=O at *
 generalize jA r (f.foot:Int)=has at *
 generalize hFC:formC f=FC at *
 have HFC:=hid hFC
 have hFs:FC.size=10:=by rw [← hFC];rfl
 have hFo:FC.all (·.oneCell')=true:=by rw [← hFC];exact KO f
 have hFi:(Tryz.prog.info? 115).map (·.size)=some FC.size:=by rw [hFs];kernel_rfl
 clear hpre hf hx hnon hbody hr hl ht hah hFC hFs
 obtain ⟨hb0,hl0,ho0,hq0⟩:=JQ w FC 115 sheet0 120
 go_enter Tryz.func100,Tryz.ntmps100
 go_wp2_with (refine wpList_load_row rfl 115 (.tmp 3) rfl w.heap.size rfl 115 FC (0,0) _ ho0 Tryz.underlying115 rfl hFi ?_)
 have HL0:=hid (Hl.out.later hb0)
 generalize (w.alloc _).alloc _=W0 at *
 have HB0:=hid hb0
 have Ho0:=hid ho0
 have Hq0:=hid hq0
 clear hb0 ho0 hq0
 refine (HUN.out W0 HL0.out).mono ?_
 rintro e w1 ⟨rfl,hb1⟩
 have HB1:=hid (HB0.out.trans (hb1.mono HB0.out.size))
 have Ho1:=hid (jb hb1 Ho0.out)
 have Hq1:=hid (jb hb1 Hq0.out)
 have hz1:=hb1.size
 clear hb1
 rw [HKV.out]
 cases has
 ·simp only [if_true]
  go_wp2_with (refine wpList_store_row rfl 120 (.tmp 6) (.tmp 19) rfl (w.heap.size+1) sheet0 rfl rfl 120 sheet0 Hq1.out (by kernel_rfl) rfl (by simp [Value.oneCell']) ?_)
  have HoF:=hid (setRow_heap w1 (w.heap.size+1) _ sheet0 120 (0,0) Hq1.out)
  have HBF:=hid (HB1.out.trans (jg (jn w1 (w.heap.size+1) sheet0) (by omega) HB1.out.size))
  generalize w1.setRow _ _=WF at *
  exact bodyPost_ret (v:=.tuple #[.agg sheet0,.int .i64 8]) (qQ (p:=6) (q:=7) rfl _ _ _ _ _ rfl rfl (run_loadVar_row (P:=Tryz.prog) WF (w.heap.size+1) 120 120 sheet0 (0,0) _ HoF.out Tryz.underlying120 rfl (by kernel_rfl))) rfl ⟨HBF.out,.inl ⟨8,sheet0,rfl,by decide,rfl,JZ,rfl⟩⟩
 ·simp only [Bool.true_eq_false,if_false]
  rcases O with _|P
  ·go_wp2_with (refine wpList_store_row rfl 120 (.tmp 6) (.tmp 19) rfl (w.heap.size+1) sheet0 rfl rfl 120 sheet0 Hq1.out (by kernel_rfl) rfl (by simp [Value.oneCell']) ?_)
   have HoF:=hid (setRow_heap w1 (w.heap.size+1) _ sheet0 120 (0,0) Hq1.out)
   have HBF:=hid (HB1.out.trans (jg (jn w1 (w.heap.size+1) sheet0) (by omega) HB1.out.size))
   generalize w1.setRow _ _=WF at *
   exact bodyPost_ret (v:=.tuple #[.agg sheet0,.int .i64 4]) (qQ (p:=6) (q:=7) rfl _ _ _ _ _ rfl rfl (run_loadVar_row (P:=Tryz.prog) WF (w.heap.size+1) 120 120 sheet0 (0,0) _ HoF.out Tryz.underlying120 rfl (by kernel_rfl))) rfl ⟨HBF.out,.inl ⟨4,sheet0,rfl,by decide,rfl,JZ,rfl⟩⟩
  ·have hPl:=HOL.out P rfl
   have HPl:=hid hPl
   clear hPl HOL
   go_wp2_with (refine wpList_load_row rfl 115 (.tmp 3) rfl w.heap.size rfl 115 FC (0,0) _ Ho1.out Tryz.underlying115 rfl hFi ?_)
   refine (HLY.out P w1 HPl.out).mono ?_
   rintro e w2 ⟨hb2,⟨hn,rfl⟩|⟨S,cv,pv,Kb,V,Qp,Qm,Pv,hS,hok,rfl,hin⟩⟩
   ·have HN:Hid (VP f true (some P)=(9,none)):=by show _=_;unfold VP;rw [if_neg (by decide)];simp only [hn]
    have HB2:=hid (HB1.out.trans (hb2.mono HB1.out.size))
    have Hq2:=hid (jb hb2 Hq1.out)
    clear hb2 hn
    go_wp2_with (refine wpList_store_row rfl 120 (.tmp 6) (.tmp 24) rfl (w.heap.size+1) sheet0 rfl rfl 120 sheet0 Hq2.out (by kernel_rfl) rfl (by simp [Value.oneCell']) ?_)
    have HoF:=hid (setRow_heap w2 (w.heap.size+1) _ sheet0 120 (0,0) Hq2.out)
    have HBF:=hid (HB2.out.trans (jg (jn w2 (w.heap.size+1) sheet0) (by omega) HB2.out.size))
    generalize w2.setRow _ _=WF at *
    exact bodyPost_ret (v:=.tuple #[.agg sheet0,.int .i64 9]) (qQ (p:=6) (q:=7) rfl _ _ _ _ _ rfl rfl (run_loadVar_row (P:=Tryz.prog) WF (w.heap.size+1) 120 120 sheet0 (0,0) _ HoF.out Tryz.underlying120 rfl (by kernel_rfl))) rfl ⟨HBF.out,.inl ⟨9,sheet0,HN.out,by decide,rfl,JZ,rfl⟩⟩
   ·have HN:Hid (VP f true (some P)=(0,some S)):=by show _=_;unfold VP;rw [if_neg (by decide)];simp only [hS]
    have HB2:=hid (HB1.out.trans (hb2.mono HB1.out.size))
    have Hq2:=hid (jb hb2 Hq1.out)
    obtain ⟨_,hsz,hone⟩:=hin.one
    have HIN:=hid (hin.lower (b:=w.heap.size) HB1.out.size)
    clear hb2 hS hok hin
    generalize hCC:zt S f cv pv Kb=CC at *
    have HCC:=hid hCC
    clear hCC
    have hinf:(Tryz.prog.info? 120).map (·.size)=some CC.size:=by rw [hsz];kernel_rfl
    have hsz0:sheet0.size=CC.size:=by rw [hsz];rfl
    clear hsz
    go_wp2_with (refine wpList_store_row rfl 120 (.tmp 6) (.tmp 24) rfl (w.heap.size+1) CC rfl rfl 120 sheet0 Hq2.out hinf hsz0 hone ?_)
    have HoF:=hid (setRow_heap w2 (w.heap.size+1) _ CC 120 (0,0) Hq2.out)
    have HBF:=hid (HB2.out.trans (jg (jn w2 (w.heap.size+1) CC) (by omega) HB2.out.size))
    have HIF:=hid (HIN.out.grown (jn w2 (w.heap.size+1) CC) Hq2.out (by decide) (by decide) (by decide) (by decide))
    generalize w2.setRow _ _=WF at *
    exact bodyPost_ret (v:=.tuple #[.agg CC,.int .i64 0]) (qQ (p:=6) (q:=7) rfl _ _ _ _ _ rfl rfl (run_loadVar_row (P:=Tryz.prog) WF (w.heap.size+1) 120 120 CC (0,0) _ HoF.out Tryz.underlying120 rfl hinf)) rfl ⟨HBF.out,.inr ⟨S,cv,pv,Kb,V,Qp,Qm,Pv,HN.out,by rw [HCC.out],by rw [HCC.out];exact HIF.out⟩⟩
end
section
open Classical in
noncomputable def Zo (f:FormF) (has:Bool) (o:Option (List UInt8)) (trust:Bool):Int × Option SheetF :=
 match xp f.foot f.parts f.footer with
 | none=>(9,none)
 | some S=>if trust=true then (0,some S) else if has=false then (8,none) else if o=some [] then (0,some S) else (4,none)
theorem YG (f:FormF) (pre:List UInt8) (ra:Option Addr) (rcap:Nat) (r:List KeyB) (trust:Bool) (w:World) (ht:f.told=true) (hah:(qe f).length≤65000) (hfl:f.footer.length≤maxLen) (hpre:pre.length≤20) (hnon:f.nonce.length≤1000) (hbody:f.body.length≤maxLen) (hr:xX r=true) (hrm:r.length≤maxLen) (hl:LiesK w ra r) :
  Calls Tryz.prog 99 #[formV f,strB pre,.slice ra r.length rcap,.bool trust] w (Km (Zo f (jA r (f.foot:Int)) (qo (jm r (f.foot:Int)) f.nonce (qJ pre f) f.body) trust) f w):=by
 have HUN:Hid (f.footer.length≤4200→∀ w':World,LiesK w' ra r→Calls Tryz.prog 161 #[.agg (formC f),strB pre,.slice ra r.length rcap] w' fun e w2=>e=.returned (Zh f (jA r (f.foot:Int)) (qo (jm r (f.foot:Int)) f.nonce (qJ pre f) f.body))∧Below w'.heap.size w' w2):=fun hf w' h=>Nd f pre ra rcap r w' hpre (by omega) (by
  have:=Xv pre (if f.told=true then 83 else 70) 0 0 0 hpre
  unfold qJ
  rw [List.length_append]
  omega) hnon hbody hr hrm h
 have HFL:Hid (∀ S,SheetOk f.foot f.parts f.footer S→f.footer.length≤4200):=fun S hS=>Zu (fun x hx=>by
  have h1:=Zg _ _ _ _ x hx
  rw [← hS.parts] at h1
  have h2:(qe f).length=4+f.parts.length:=(Um f).2.2
  omega) hS
 have HKV:Hid (∀ h o,Zh f h o=if h=false then .tuple #[strB [],.int .i64 8] else if o=some [] then .tuple #[strB f.footer,.int .i64 0] else .tuple #[strB [],.int .i64 4]):=by
  intro h o
  unfold Zh
  rw [ht]
  rfl
 have HLY:Hid (∀ w':World,Calls Tryz.prog 160 #[.agg (formC f),strB f.footer] w' (Lt f f.footer w')):=fun w'=>Ng f f.footer w' hfl hah
 have HTF:Hid (∀ h o,Zo f h o trust=match xp f.foot f.parts f.footer with
   | none=>(9,none)
   | some S=>if trust=true then (0,some S) else if h=false then (8,none) else if o=some [] then (0,some S) else (4,none)):=fun h o=>by unfold Zo;rfl
 have Hl:=hid hl
 show Calls _ _ #[.agg (formC f),strB pre,.slice ra r.length rcap,.bool trust] _ _
 have HX2:Hid ((formC f)[2]?=some (strB f.footer)):=rfl
 generalize qo (jm r (f.foot:Int)) f.nonce (qJ pre f) f.body=O at *
 generalize jA r (f.foot:Int)=has at *
 generalize hFC:formC f=FC at *
 have hFs:FC.size=10:=by rw [← hFC];rfl
 have hFi:(Tryz.prog.info? 115).map (·.size)=some FC.size:=by rw [hFs];kernel_rfl
 clear hpre hnon hbody hr hl ht hah hFC hFs hfl
 obtain ⟨hb0,hl0,ho0,hq0⟩:=JQ w FC 115 sheet0 120
 have x2:((w.alloc (.cells FC 115)).alloc (.cells sheet0 120)).cell? ⟨w.heap.size,2,none⟩=some (strB f.footer):=by rw [jd ho0];exact HX2.out
 go_enter Tryz.func99,Tryz.ntmps99
 go_wp2_with (refine wpList_load_row rfl 115 (.tmp 4) rfl w.heap.size rfl 115 FC (0,0) _ ho0 Tryz.underlying115 rfl hFi ?_)
 have HL0:=hid (Hl.out.later hb0)
 generalize (w.alloc _).alloc _=W0 at *
 have HB0:=hid hb0
 have Ho0:=hid ho0
 have Hq0:=hid hq0
 clear hb0 ho0 hq0 x2
 refine (HLY.out W0).mono ?_
 rintro e w1 ⟨hb1,⟨hn,rfl⟩|⟨S,cv,pv,Kb,V,Qp,Qm,Pv,hS,hok,rfl,hin⟩⟩
 ·have HN:Hid (∀ h o,Zo f h o trust=(9,none)):=by intro h o;rw [HTF.out];simp only [hn]
  have HB1:=hid (HB0.out.trans (hb1.mono HB0.out.size))
  have Hq1:=hid (jb hb1 Hq0.out)
  have hz1:=hb1.size
  clear hb1 hn
  obtain ⟨hbA,hlA,_,hoA⟩:=qg w1 sheet0 120
  have gA:=jn (w1.alloc (.cells sheet0 120)) w1.heap.size sheet0
  have oA:=setRow_heap (w1.alloc (.cells sheet0 120)) w1.heap.size _ sheet0 120 (0,0) hoA
  have h3A:=jf gA (jb hbA Hq1.out) (by have:=(Array.getElem?_eq_some_iff.1 Hq1.out).1;omega)
  have HBA:=hid ((HB1.out.trans (hbA.mono HB1.out.size)).trans (jg gA HB1.out.size (Nat.le_trans HB1.out.size hbA.size)))
  go_wp2_with (first
   | (refine wpList_store_row rfl 120 (.tmp 10) (.tmp 17) rfl w1.heap.size sheet0 rfl rfl 120 sheet0 hoA (by kernel_rfl) rfl (by simp [Value.oneCell']) ?_)
   | (refine wpList_load_row rfl 120 (.tmp 10) rfl w1.heap.size rfl 120 sheet0 (0,0) _ oA Tryz.underlying120 rfl (by kernel_rfl) ?_)
   | (refine wpList_store_row rfl 120 (.tmp 8) (.tmp 32) rfl (w.heap.size+1) sheet0 rfl rfl 120 sheet0 h3A (by kernel_rfl) rfl (by simp [Value.oneCell']) ?_))
  show bodyPost _ _ _ _ _ (((w1.alloc (.cells sheet0 120)).setRow w1.heap.size sheet0).setRow (w.heap.size+1) sheet0)
  have H3A:=hid h3A
  clear hoA oA h3A gA hbA
  generalize (w1.alloc _).setRow _ _=w2 at *
  have HoF:=hid (setRow_heap w2 (w.heap.size+1) _ sheet0 120 (0,0) H3A.out)
  have HBF:=hid (HBA.out.trans (jg (jn w2 (w.heap.size+1) sheet0) (by omega) HBA.out.size))
  generalize w2.setRow _ _=WF at *
  exact bodyPost_ret (v:=.tuple #[.agg sheet0,.int .i64 9]) (qQ (p:=8) (q:=9) rfl _ _ _ _ _ rfl rfl (run_loadVar_row (P:=Tryz.prog) WF (w.heap.size+1) 120 120 sheet0 (0,0) _ HoF.out Tryz.underlying120 rfl (by kernel_rfl))) rfl ⟨HBF.out,.inl ⟨9,sheet0,HN.out _ _,by decide,rfl,JZ,rfl⟩⟩
 ·have HTS:Hid (∀ h o,Zo f h o trust=if trust=true then (0,some S) else if h=false then (8,none) else if o=some [] then (0,some S) else (4,none)):=by intro h o;rw [HTF.out];simp only [hS]
  have HF4:=hid (HFL.out S hok)
  have HB1:=hid (HB0.out.trans (hb1.mono HB0.out.size))
  have Hq1:=hid (jb hb1 Hq0.out)
  have Ho1:=hid (jb hb1 Ho0.out)
  have hz1:=hb1.size
  obtain ⟨_,hsz,hone⟩:=hin.one
  have HIN:=hid (hin.lower (b:=w.heap.size) HB0.out.size)
  clear hb1 hS hok hin HTF HFL
  generalize hCC:zt S f cv pv Kb=CC at *
  have HCC:=hid hCC
  clear hCC
  have HSZ:=hid hsz
  have hinf:(Tryz.prog.info? 120).map (·.size)=some CC.size:=by rw [hsz];kernel_rfl
  have hsz0:sheet0.size=CC.size:=by rw [hsz];rfl
  clear hsz
  obtain ⟨hbA,hlA,_,hoA⟩:=qg w1 sheet0 120
  have hqlt:=(Array.getElem?_eq_some_iff.1 Hq1.out).1
  have gA:=jn (w1.alloc (.cells sheet0 120)) w1.heap.size CC
  have oA:=setRow_heap (w1.alloc (.cells sheet0 120)) w1.heap.size _ CC 120 (0,0) hoA
  have h3A:=jf gA (jb hbA Hq1.out) (by omega)
  have f3A:=jf gA (jb hbA Ho1.out) (by omega)
  have HBA:=hid ((HB1.out.trans (hbA.mono HB1.out.size)).trans (jg gA HB1.out.size (Nat.le_trans HB1.out.size hbA.size)))
  have HIA:=hid ((HIN.out.later hbA).grown gA hoA (by decide) (by decide) (by decide) (by decide))
  cases trust
  ·have HTS2:Hid (∀ h o,Zo f h o false=if h=false then (8,none) else if o=some [] then (0,some S) else (4,none)):=by intro h o;rw [HTS.out,if_neg (by decide)]
   go_wp2_with (first
    | (refine wpList_store_row rfl 120 (.tmp 10) (.tmp 17) rfl w1.heap.size CC rfl rfl 120 sheet0 hoA hinf hsz0 hone ?_)
    | (refine wpList_load_row rfl 115 (.tmp 4) rfl w.heap.size rfl 115 FC (0,0) _ f3A Tryz.underlying115 rfl hFi ?_))
   have HLA:=hid (Hl.out.later HBA.out)
   have H3A:=hid h3A
   have HoA:=hid oA
   clear hoA oA h3A f3A gA hbA
   show Calls _ _ _ ((w1.alloc (.cells sheet0 120)).setRow w1.heap.size CC) _
   generalize (w1.alloc _).setRow _ _=w2 at *
   refine (HUN.out HF4.out w2 HLA.out).mono ?_
   rintro e w3 ⟨rfl,hb3⟩
   have HBE:=hid (HBA.out.trans (hb3.mono HBA.out.size))
   have HqE:=hid (jb hb3 H3A.out)
   have HlE:=hid (jb hb3 HoA.out)
   have HIE:=hid (HIA.out.later hb3)
   clear hb3
   rw [HKV.out]
   cases has
   ·simp only [if_true]
    have HT:Hid (Zo f false O false=(8,none)):=by show _=_;rw [HTS2.out,if_pos rfl]
    go_wp2_with (first
    | (refine wpList_load_row rfl 120 (.tmp 10) rfl w1.heap.size rfl 120 CC (0,0) _ HlE.out Tryz.underlying120 rfl hinf ?_)
    | (refine wpList_store_row rfl 120 (.tmp 8) (.tmp 32) rfl (w.heap.size+1) CC rfl rfl 120 sheet0 HqE.out hinf hsz0 hone ?_))
    have HoF:=hid (setRow_heap w3 (w.heap.size+1) _ CC 120 (0,0) HqE.out)
    have HBF:=hid (HBE.out.trans (jg (jn w3 (w.heap.size+1) CC) (by omega) HBE.out.size))
    have HIF:=hid (HIE.out.grown (jn w3 (w.heap.size+1) CC) HqE.out (by decide) (by decide) (by decide) (by decide))
    generalize w3.setRow _ _=WF at *
    exact bodyPost_ret (v:=.tuple #[.agg CC,.int .i64 8]) (qQ (p:=8) (q:=9) rfl _ _ _ _ _ rfl rfl (run_loadVar_row (P:=Tryz.prog) WF (w.heap.size+1) 120 120 CC (0,0) _ HoF.out Tryz.underlying120 rfl hinf)) rfl ⟨HBF.out,.inl ⟨8,CC,HT.out,by decide,HSZ.out,hone,rfl⟩⟩
   ·by_cases hO:O=some []
    ·have HT:Hid (Zo f true O false=(0,some S)):=by show _=_;rw [HTS2.out,if_neg (by decide),if_pos hO]
     rw [if_neg (by decide),if_pos hO]
     clear hO
     go_wp2_with (first
    | (refine wpList_load_row rfl 120 (.tmp 10) rfl w1.heap.size rfl 120 CC (0,0) _ HlE.out Tryz.underlying120 rfl hinf ?_)
    | (refine wpList_store_row rfl 120 (.tmp 8) (.tmp 32) rfl (w.heap.size+1) CC rfl rfl 120 sheet0 HqE.out hinf hsz0 hone ?_))
     have HoF:=hid (setRow_heap w3 (w.heap.size+1) _ CC 120 (0,0) HqE.out)
     have HBF:=hid (HBE.out.trans (jg (jn w3 (w.heap.size+1) CC) (by omega) HBE.out.size))
     have HIF:=hid (HIE.out.grown (jn w3 (w.heap.size+1) CC) HqE.out (by decide) (by decide) (by decide) (by decide))
     generalize w3.setRow _ _=WF at *
     exact bodyPost_ret (v:=.tuple #[.agg CC,.int .i64 0]) (qQ (p:=8) (q:=9) rfl _ _ _ _ _ rfl rfl (run_loadVar_row (P:=Tryz.prog) WF (w.heap.size+1) 120 120 CC (0,0) _ HoF.out Tryz.underlying120 rfl hinf)) rfl ⟨HBF.out,.inr ⟨S,cv,pv,Kb,V,Qp,Qm,Pv,HT.out,by rw [HCC.out],by rw [HCC.out];exact HIF.out⟩⟩
    ·have HT:Hid (Zo f true O false=(4,none)):=by show _=_;rw [HTS2.out,if_neg (by decide),if_neg hO]
     rw [if_neg (by decide),if_neg hO]
     clear hO
     go_wp2_with (first
    | (refine wpList_load_row rfl 120 (.tmp 10) rfl w1.heap.size rfl 120 CC (0,0) _ HlE.out Tryz.underlying120 rfl hinf ?_)
    | (refine wpList_store_row rfl 120 (.tmp 8) (.tmp 32) rfl (w.heap.size+1) CC rfl rfl 120 sheet0 HqE.out hinf hsz0 hone ?_))
     have HoF:=hid (setRow_heap w3 (w.heap.size+1) _ CC 120 (0,0) HqE.out)
     have HBF:=hid (HBE.out.trans (jg (jn w3 (w.heap.size+1) CC) (by omega) HBE.out.size))
     have HIF:=hid (HIE.out.grown (jn w3 (w.heap.size+1) CC) HqE.out (by decide) (by decide) (by decide) (by decide))
     generalize w3.setRow _ _=WF at *
     exact bodyPost_ret (v:=.tuple #[.agg CC,.int .i64 4]) (qQ (p:=8) (q:=9) rfl _ _ _ _ _ rfl rfl (run_loadVar_row (P:=Tryz.prog) WF (w.heap.size+1) 120 120 CC (0,0) _ HoF.out Tryz.underlying120 rfl hinf)) rfl ⟨HBF.out,.inl ⟨4,CC,HT.out,by decide,HSZ.out,hone,rfl⟩⟩
  ·have HT:Hid (Zo f has O true=(0,some S)):=by show _=_;rw [HTS.out,if_pos rfl]
   go_wp2_with (first
    | (refine wpList_store_row rfl 120 (.tmp 10) (.tmp 17) rfl w1.heap.size CC rfl rfl 120 sheet0 hoA hinf hsz0 hone ?_)
    | (refine wpList_load_row rfl 120 (.tmp 10) rfl w1.heap.size rfl 120 CC (0,0) _ oA Tryz.underlying120 rfl hinf ?_)
    | (refine wpList_store_row rfl 120 (.tmp 8) (.tmp 32) rfl (w.heap.size+1) CC rfl rfl 120 sheet0 h3A hinf hsz0 hone ?_))
   show bodyPost _ _ _ _ _ (((w1.alloc (.cells sheet0 120)).setRow w1.heap.size CC).setRow (w.heap.size+1) CC)
   have HqE:=hid h3A
   have HBE:=hid HBA.out
   have HIE:=hid HIA.out
   clear hoA oA h3A f3A gA hbA
   generalize (w1.alloc _).setRow _ _=w2 at *
   have HoF:=hid (setRow_heap w2 (w.heap.size+1) _ CC 120 (0,0) HqE.out)
   have HBF:=hid (HBE.out.trans (jg (jn w2 (w.heap.size+1) CC) (by omega) HBE.out.size))
   have HIF:=hid (HIE.out.grown (jn w2 (w.heap.size+1) CC) HqE.out (by decide) (by decide) (by decide) (by decide))
   generalize w2.setRow _ _=WF at *
   exact bodyPost_ret (v:=.tuple #[.agg CC,.int .i64 0]) (qQ (p:=8) (q:=9) rfl _ _ _ _ _ rfl rfl (run_loadVar_row (P:=Tryz.prog) WF (w.heap.size+1) 120 120 CC (0,0) _ HoF.out Tryz.underlying120 rfl hinf)) rfl ⟨HBF.out,.inr ⟨S,cv,pv,Kb,V,Qp,Qm,Pv,HT.out,by rw [HCC.out],by rw [HCC.out];exact HIF.out⟩⟩
end
section
def AI (file pre:List UInt8) (r:List KeyB) (trust:Bool) (w:World) (e:Ending) (w':World):Prop :=
 ∃ f:FormF,Km (qN file pre r trust) f w e w'
def f0:FormF:=⟨false,0,[],[],[],[]⟩
theorem Rj (file pre:List UInt8) (ra:Option Addr) (rcap:Nat) (r:List KeyB) (trust:Bool) (w:World) (hfl:file.length≤maxLen) (hpl:pre.length≤maxLen) (hrm:r.length≤maxLen) (hl:LiesK w ra r) :
  Calls Tryz.prog 42 #[strB file,strB pre,.slice ra r.length rcap,.bool trust] w (AI file pre r trust w):=by
 have hmf:∀ (fn:Fn) (first cap:Array Value) (w:World),(Instr.makeFunc fn first cap).run Tryz.prog w=.ok (.func fn first cap) w:=fun _ _ _ _=>rfl
 have Hfl:=hid hfl
 have Hpl:=hid hpl
 have Hl:=hid hl
 clear hfl hpl hl
 obtain ⟨hb0,hl0,ho0,hq0⟩:=JQ w #[strB file] 9 sheet0 120
 go_enter Tryz.func42,Tryz.ntmps42
 go_wp2_with fail
 have HL0:=hid (Hl.out.later hb0)
 generalize (w.alloc _).alloc _=W0 at *
 have HBW:=hid hb0
 have Ho0:=hid ho0
 have Hq0:=hid hq0
 clear hb0 ho0 hq0
 refine (Ec pre W0 Hpl.out).mono ?_
 rintro e w1 ⟨rfl,rfl⟩
 by_cases hp:¬ pre.length≤20
 ·have HS:Hid (qN file pre r trust=(7,none)):=by show _=_;unfold qN;rw [if_pos (by omega)]
  rw [decide_eq_false hp]
  clear hp
  go_wp2_with (refine wpList_store_row rfl 120 (.tmp 8) (.tmp 15) rfl (w.heap.size+1) sheet0 rfl rfl 120 sheet0 Hq0.out (by kernel_rfl) rfl (by simp [Value.oneCell']) ?_)
  have HoF:=hid (setRow_heap w1 (w.heap.size+1) _ sheet0 120 (0,0) Hq0.out)
  have HBF:=hid (HBW.out.trans (jg (jn w1 (w.heap.size+1) sheet0) (by omega) HBW.out.size))
  generalize w1.setRow _ _=WF at *
  exact bodyPost_ret (v:=.tuple #[.agg sheet0,.int .i64 7]) (qQ (p:=8) (q:=9) rfl _ _ _ _ _ rfl rfl (run_loadVar_row (P:=Tryz.prog) WF (w.heap.size+1) 120 120 sheet0 (0,0) _ HoF.out Tryz.underlying120 rfl (by kernel_rfl))) rfl ⟨f0,HBF.out,.inl ⟨7,sheet0,HS.out,by decide,rfl,JZ,rfl⟩⟩
 have hp':=Decidable.not_not.1 hp
 rw [decide_eq_true hp']
 clear hp
 go_wp2_with fail
 refine (Ar ra rcap r w1 hrm HL0.out).mono ?_
 rintro e w2 ⟨rfl,hb2⟩
 have HB2:=hid (HBW.out.trans (hb2.mono HBW.out.size))
 have Ho2:=hid (jb hb2 Ho0.out)
 have Hq2:=hid (jb hb2 Hq0.out)
 have hz2:=hb2.size
 have HL2:=hid (Hl.out.later HB2.out)
 clear hb2 HBW
 have HBW:=HB2
 cases hr:xX r with
 | false =>
  have HS:Hid (qN file pre r trust=(1,none)):=by show _=_;unfold qN;rw [if_neg (by omega),if_pos hr]
  clear hr
  go_wp2_with (refine wpList_store_row rfl 120 (.tmp 8) (.tmp 19) rfl (w.heap.size+1) sheet0 rfl rfl 120 sheet0 Hq2.out (by kernel_rfl) rfl (by simp [Value.oneCell']) ?_)
  have HoF:=hid (setRow_heap w2 (w.heap.size+1) _ sheet0 120 (0,0) Hq2.out)
  have HBF:=hid (HBW.out.trans (jg (jn w2 (w.heap.size+1) sheet0) (by omega) HBW.out.size))
  generalize w2.setRow _ _=WF at *
  exact bodyPost_ret (v:=.tuple #[.agg sheet0,.int .i64 1]) (qQ (p:=8) (q:=9) rfl _ _ _ _ _ rfl rfl (run_loadVar_row (P:=Tryz.prog) WF (w.heap.size+1) 120 120 sheet0 (0,0) _ HoF.out Tryz.underlying120 rfl (by kernel_rfl))) rfl ⟨f0,HBF.out,.inl ⟨1,sheet0,HS.out,by decide,rfl,JZ,rfl⟩⟩
 | true =>
  have Hr:=hid hr
  clear hr
  have hcell:w2.cell? ⟨w.heap.size,0,none⟩=some (strB file):=by rw [jd Ho2.out];rfl
  have HCell:=hid hcell
  clear hcell
  go_wp2_with fail
  refine (SA file w.heap.size w2 Hfl.out HCell.out).mono ?_
  rintro e w3 ⟨hb3,⟨hn,rfl⟩|⟨f,hf,rfl⟩⟩
  ·have HS:Hid (qN file pre r trust=(9,none)):=by show _=_;unfold qN;rw [if_neg (by omega),if_neg (by rw [Hr.out];decide)];simp only [hn]
   have HB3:=hid (HB2.out.trans (hb3.mono HB2.out.size))
   have Hq3:=hid (jb hb3 Hq2.out)
   clear hb3 hn HBW
   obtain ⟨hbA,hlA,_,hoA⟩:=qg w3 form0 115
   have hqlt:=(Array.getElem?_eq_some_iff.1 Hq3.out).1
   have gA:=jn (w3.alloc (.cells form0 115)) w3.heap.size form0
   have hqA:=jf gA (jb hbA Hq3.out) (by omega)
   have HBW:=hid ((HB3.out.trans (hbA.mono HB3.out.size)).trans (jg gA HB3.out.size (Nat.le_trans HB3.out.size hbA.size)))
   go_wp2_with (first
    | (refine wpList_store_row rfl 115 (.tmp 10) (.tmp 23) rfl w3.heap.size form0 rfl rfl 115 form0 hoA (by kernel_rfl) rfl (by simp [Value.oneCell']) ?_)
    | (refine wpList_store_row rfl 120 (.tmp 8) (.tmp 28) rfl (w.heap.size+1) sheet0 rfl rfl 120 sheet0 hqA (by kernel_rfl) rfl (by simp [Value.oneCell']) ?_))
   show bodyPost _ _ _ _ _ (((w3.alloc (.cells form0 115)).setRow w3.heap.size form0).setRow (w.heap.size+1) sheet0)
   have HqA:=hid hqA
   clear hoA hqA gA hbA
   generalize (w3.alloc _).setRow _ _=w4 at *
   have HoF:=hid (setRow_heap w4 (w.heap.size+1) _ sheet0 120 (0,0) HqA.out)
   have HBF:=hid (HBW.out.trans (jg (jn w4 (w.heap.size+1) sheet0) (by omega) HBW.out.size))
   generalize w4.setRow _ _=WF at *
   exact bodyPost_ret (v:=.tuple #[.agg sheet0,.int .i64 9]) (qQ (p:=8) (q:=9) rfl _ _ _ _ _ rfl rfl (run_loadVar_row (P:=Tryz.prog) WF (w.heap.size+1) 120 120 sheet0 (0,0) _ HoF.out Tryz.underlying120 rfl (by kernel_rfl))) rfl ⟨f0,HBF.out,.inl ⟨9,sheet0,HS.out,by decide,rfl,JZ,rfl⟩⟩
  ·have hok:=(RS hf).1
   obtain ⟨hl1,hl2,hl3⟩:=hok.lens
   have hsh:=hok.short
   have hah:(qe f).length≤65000:=by
    have h1:=(Um f).2.2
    have h2:=(Jw hok rfl).len
    omega
   have hnon:f.nonce.length≤1000:=by rw [hok.nonce];decide
   have hbd:f.body.length≤maxLen:=Nat.le_trans hl2 (by decide)
   have hft:f.footer.length≤maxLen:=Nat.le_trans hl3 (by decide)
   have HTO:Hid (f.told=true→∀ w',LiesK w' ra r→Calls Tryz.prog 99 #[.agg (formC f),strB pre,.slice ra r.length rcap,.bool trust] w' (Km (Zo f (jA r (f.foot:Int)) (qo (jm r (f.foot:Int)) f.nonce (qJ pre f) f.body) trust) f w')):=fun ht w' h=>YG f pre ra rcap r trust w' ht hah hft hp' hnon hbd Hr.out hrm h
   have HHI:Hid (f.told=false→∀ w',LiesK w' ra r→Calls Tryz.prog 100 #[.agg (formC f),strB pre,.slice ra r.length rcap] w' (Km (VP f (jA r (f.foot:Int)) (qo (jm r (f.foot:Int)) f.nonce (qJ pre f) f.body)) f w')):=fun ht w' h=>GS f pre ra rcap r w' ht hah hp' (by rw [hok.none_ ht];decide) (by
    have:=Xv pre (if f.told=true then 83 else 70) 0 0 0 hp'
    unfold qJ
    rw [List.length_append,hok.none_ ht]
    simp only [List.length_nil]
    omega) hnon hbd Hr.out hrm h
   have HB3:=hid (HB2.out.trans (hb3.mono HB2.out.size))
   have Hq3:=hid (jb hb3 Hq2.out)
   have HF:=hid hf
   have HNO:Hid (f.told=false→f.footer=[]):=hok.none_
   clear hb3 hf hok hl1 hl2 hl3 hsh hah hnon hbd hft HBW
   obtain ⟨hbA,hlA,_,hoA⟩:=qg w3 form0 115
   have hqlt:=(Array.getElem?_eq_some_iff.1 Hq3.out).1
   have gA:=jn (w3.alloc (.cells form0 115)) w3.heap.size (formC f)
   have oA:=setRow_heap (w3.alloc (.cells form0 115)) w3.heap.size _ (formC f) 115 (0,0) hoA
   have hqA:=jf gA (jb hbA Hq3.out) (by omega)
   have x1:((w3.alloc (.cells form0 115)).setRow w3.heap.size (formC f)).cell? ⟨w3.heap.size,1,none⟩=some (.bool f.told):=by rw [jd oA];rfl
   have HBA:=hid ((HB3.out.trans (hbA.mono HB3.out.size)).trans (jg gA HB3.out.size (Nat.le_trans HB3.out.size hbA.size)))
   have hone0:=KO f
   have HLA:=hid (Hl.out.later HBA.out)
   have hFV:formV f=.agg (formC f):=rfl
   rw [hFV]
   clear hFV
   have hFi:(Tryz.prog.info? 115).map (·.size)=some (formC f).size:=by kernel_rfl
   have hFz:form0.size=(formC f).size:=rfl
   generalize formC f=FC at *
   cases ht:f.told
   case' true =>
    rw [ht] at x1
    have HSF:Hid (qN file pre r trust=Zo f (jA r (f.foot:Int)) (qo (jm r (f.foot:Int)) f.nonce (qJ pre f) f.body) trust):=by
     show _=_
     unfold qN Zo
     rw [if_neg (by omega),if_neg (by rw [Hr.out];decide)]
     simp only [HF.out,ht,if_true]
     unfold qJ
     rw [ht]
     rfl
    have HCALL:=hid (HTO.out ht)
   case' false =>
    rw [ht] at x1
    have HSF:Hid (qN file pre r trust=VP f (jA r (f.foot:Int)) (qo (jm r (f.foot:Int)) f.nonce (qJ pre f) f.body)):=by
     show _=_
     unfold qN VP
     rw [if_neg (by omega),if_neg (by rw [Hr.out];decide)]
     simp only [HF.out,ht,Bool.false_eq_true,if_false]
     unfold qJ
     rw [ht,HNO.out ht]
     simp only [Bool.false_eq_true,if_false,List.append_nil]
     rfl
    have HCALL:=hid (HHI.out ht)
   all_goals
    clear ht
    go_wp2_with (first
     | (refine wpList_store_row rfl 115 (.tmp 10) (.tmp 23) rfl w3.heap.size FC rfl rfl 115 form0 hoA hFi hFz hone0 ?_)
     | (refine wpList_load_row rfl 115 (.tmp 10) rfl w3.heap.size rfl 115 FC (0,0) _ oA Tryz.underlying115 rfl hFi ?_))
    show Calls _ _ _ ((w3.alloc (.cells form0 115)).setRow w3.heap.size FC) _
    have HqA:=hid hqA
    clear hoA hqA gA hbA oA x1
    generalize (w3.alloc _).setRow _ _=w4 at *
    refine (HCALL.out w4 HLA.out).mono ?_
   next =>
    rintro e w5 ⟨hb5,⟨err,C,hres,hne,hC,hC1,rfl⟩|⟨S,cv,pv,Kb,V,Qp,Qm,Pv,hres,rfl,hin⟩⟩
    ·have HR:=hid (HSF.out.trans hres)
     have HB5:=hid (HBA.out.trans (hb5.mono HBA.out.size))
     have Hq5:=hid (jb hb5 HqA.out)
     have hinf:(Tryz.prog.info? 120).map (·.size)=some C.size:=by rw [hC];kernel_rfl
     have hsz0:sheet0.size=C.size:=by rw [hC];rfl
     have HC:=hid hC
     have Hne:=hid hne
     clear hb5 hres hC hne
     go_wp2_with (refine wpList_store_row rfl 120 (.tmp 8) (.tmp 43) rfl (w.heap.size+1) C rfl rfl 120 sheet0 Hq5.out hinf hsz0 hC1 ?_)
     have HoF:=hid (setRow_heap w5 (w.heap.size+1) _ C 120 (0,0) Hq5.out)
     have HBF:=hid (HB5.out.trans (jg (jn w5 (w.heap.size+1) C) (by omega) HB5.out.size))
     generalize w5.setRow _ _=WF at *
     exact bodyPost_ret (v:=.tuple #[.agg C,.int .i64 err]) (qQ (p:=8) (q:=9) rfl _ _ _ _ _ rfl rfl (run_loadVar_row (P:=Tryz.prog) WF (w.heap.size+1) 120 120 C (0,0) _ HoF.out Tryz.underlying120 rfl hinf)) rfl ⟨f,HBF.out,.inl ⟨err,C,HR.out,Hne.out,HC.out,hC1,rfl⟩⟩
    ·have HR:=hid (HSF.out.trans hres)
     have HB5:=hid (HBA.out.trans (hb5.mono HBA.out.size))
     have Hq5:=hid (jb hb5 HqA.out)
     obtain ⟨_,hsz,hone⟩:=hin.one
     have HIN:=hid (hin.lower (b:=w.heap.size) HBA.out.size)
     clear hb5 hres hin
     generalize hCC:zt S f cv pv Kb=CC at *
     have HCC:=hid hCC
     clear hCC
     have hinf:(Tryz.prog.info? 120).map (·.size)=some CC.size:=by rw [hsz];kernel_rfl
     have hsz0:sheet0.size=CC.size:=by rw [hsz];rfl
     clear hsz
     go_wp2_with (refine wpList_store_row rfl 120 (.tmp 8) (.tmp 43) rfl (w.heap.size+1) CC rfl rfl 120 sheet0 Hq5.out hinf hsz0 hone ?_)
     have HoF:=hid (setRow_heap w5 (w.heap.size+1) _ CC 120 (0,0) Hq5.out)
     have HBF:=hid (HB5.out.trans (jg (jn w5 (w.heap.size+1) CC) (by omega) HB5.out.size))
     have HIF:=hid (HIN.out.grown (jn w5 (w.heap.size+1) CC) Hq5.out (by decide) (by decide) (by decide) (by decide))
     generalize w5.setRow _ _=WF at *
     exact bodyPost_ret (v:=.tuple #[.agg CC,.int .i64 0]) (qQ (p:=8) (q:=9) rfl _ _ _ _ _ rfl rfl (run_loadVar_row (P:=Tryz.prog) WF (w.heap.size+1) 120 120 CC (0,0) _ HoF.out Tryz.underlying120 rfl hinf)) rfl ⟨f,HBF.out,.inr ⟨S,cv,pv,Kb,V,Qp,Qm,Pv,HR.out,by rw [HCC.out],by rw [HCC.out];exact HIF.out⟩⟩
   next =>
    rintro e w5 ⟨hb5,⟨err,C,hres,hne,hC,hC1,rfl⟩|⟨S,cv,pv,Kb,V,Qp,Qm,Pv,hres,rfl,hin⟩⟩
    ·have HR:=hid (HSF.out.trans hres)
     have HB5:=hid (HBA.out.trans (hb5.mono HBA.out.size))
     have Hq5:=hid (jb hb5 HqA.out)
     have hinf:(Tryz.prog.info? 120).map (·.size)=some C.size:=by rw [hC];kernel_rfl
     have hsz0:sheet0.size=C.size:=by rw [hC];rfl
     have HC:=hid hC
     have Hne:=hid hne
     clear hb5 hres hC hne
     go_wp2_with (refine wpList_store_row rfl 120 (.tmp 8) (.tmp 37) rfl (w.heap.size+1) C rfl rfl 120 sheet0 Hq5.out hinf hsz0 hC1 ?_)
     have HoF:=hid (setRow_heap w5 (w.heap.size+1) _ C 120 (0,0) Hq5.out)
     have HBF:=hid (HB5.out.trans (jg (jn w5 (w.heap.size+1) C) (by omega) HB5.out.size))
     generalize w5.setRow _ _=WF at *
     exact bodyPost_ret (v:=.tuple #[.agg C,.int .i64 err]) (qQ (p:=8) (q:=9) rfl _ _ _ _ _ rfl rfl (run_loadVar_row (P:=Tryz.prog) WF (w.heap.size+1) 120 120 C (0,0) _ HoF.out Tryz.underlying120 rfl hinf)) rfl ⟨f,HBF.out,.inl ⟨err,C,HR.out,Hne.out,HC.out,hC1,rfl⟩⟩
    ·have HR:=hid (HSF.out.trans hres)
     have HB5:=hid (HBA.out.trans (hb5.mono HBA.out.size))
     have Hq5:=hid (jb hb5 HqA.out)
     obtain ⟨_,hsz,hone⟩:=hin.one
     have HIN:=hid (hin.lower (b:=w.heap.size) HBA.out.size)
     clear hb5 hres hin
     generalize hCC:zt S f cv pv Kb=CC at *
     have HCC:=hid hCC
     clear hCC
     have hinf:(Tryz.prog.info? 120).map (·.size)=some CC.size:=by rw [hsz];kernel_rfl
     have hsz0:sheet0.size=CC.size:=by rw [hsz];rfl
     clear hsz
     go_wp2_with (refine wpList_store_row rfl 120 (.tmp 8) (.tmp 37) rfl (w.heap.size+1) CC rfl rfl 120 sheet0 Hq5.out hinf hsz0 hone ?_)
     have HoF:=hid (setRow_heap w5 (w.heap.size+1) _ CC 120 (0,0) Hq5.out)
     have HBF:=hid (HB5.out.trans (jg (jn w5 (w.heap.size+1) CC) (by omega) HB5.out.size))
     have HIF:=hid (HIN.out.grown (jn w5 (w.heap.size+1) CC) Hq5.out (by decide) (by decide) (by decide) (by decide))
     generalize w5.setRow _ _=WF at *
     exact bodyPost_ret (v:=.tuple #[.agg CC,.int .i64 0]) (qQ (p:=8) (q:=9) rfl _ _ _ _ _ rfl rfl (run_loadVar_row (P:=Tryz.prog) WF (w.heap.size+1) 120 120 CC (0,0) _ HoF.out Tryz.underlying120 rfl hinf)) rfl ⟨f,HBF.out,.inr ⟨S,cv,pv,Kb,V,Qp,Qm,Pv,HR.out,by rw [HCC.out],by rw [HCC.out];exact HIF.out⟩⟩
end
end Go.Proofs.YthhpbhpfagoapaaGreat
