import Derived.Test.YthhpbhpfagoapabGreatJBN
namespace Go.Proofs.YthhpbhpfagoapabGreat
set_option linter.unusedVariables false
set_option linter.unusedSimpArgs false
set_option maxRecDepth 100000
set_option maxHeartbeats 16000000
open Go.RowKit
def MV (file pre:List UInt8) (r:List KeyB) (trust:Bool) (w:World) (e:Ending) (w':World):Prop :=
 ∃ f:FormF,(∀ S,xg file pre r trust=(0,some S)→zq file=some f)∧Uj (xg file pre r trust) f w e w'
def f0:FormF:=⟨false,0,[],[],[],[]⟩
theorem UU (file pre:List UInt8) (ra:Option Addr) (rcap:Nat) (r:List KeyB) (trust:Bool) (w:World) (hfl:file.length≤maxLen) (hpl:pre.length≤maxLen) (hrm:r.length≤maxLen) (hl:LiesK w ra r) :
  Calls Tryz.prog 24 #[strB file,strB pre,.slice ra r.length rcap,.bool trust] w (MV file pre r trust w):=by
 have hmf:∀ (fn:Fn) (first cap:Array Value) (w:World),(Instr.makeFunc fn first cap).run Tryz.prog w=.ok (.func fn first cap) w:=fun _ _ _ _=>rfl
 have Hfl:=hid hfl
 have Hpl:=hid hpl
 have Hl:=hid hl
 clear hfl hpl hl
 obtain ⟨hb0,hl0,ho0,hq0⟩:=JY w #[strB file] 9 sheet0 82
 go_enter Tryz.func24,Tryz.ntmps24
 go_wp2_with fail
 have HL0:=hid (Hl.out.later hb0)
 generalize (w.alloc _).alloc _=W0 at *
 have HBW:=hid hb0
 have Ho0:=hid ho0
 have Hq0:=hid hq0
 clear hb0 ho0 hq0
 refine (Vy pre W0 Hpl.out).mono ?_
 rintro e w1 ⟨rfl,rfl⟩
 by_cases hp:¬ pre.length≤20
 ·have HS:Hid (xg file pre r trust=(7,none)):=by show _=_;unfold xg;rw [if_pos (by omega)]
  rw [decide_eq_false hp]
  clear hp
  go_wp2_with (refine wpList_store_row rfl 82 (.tmp 8) (.tmp 15) rfl (w.heap.size+1) sheet0 rfl rfl 82 sheet0 Hq0.out (by kernel_rfl) rfl (by simp [Value.oneCell']) ?_)
  have HoF:=hid (setRow_heap w1 (w.heap.size+1) _ sheet0 82 (0,0) Hq0.out)
  have HBF:=hid (HBW.out.trans (jq (jy w1 (w.heap.size+1) sheet0) (by omega) HBW.out.size))
  generalize w1.setRow _ _=WF at *
  exact bodyPost_ret (v:=.tuple #[.agg sheet0,.int .i64 7]) (qY (p:=8) (q:=9) rfl _ _ _ _ _ rfl rfl (run_loadVar_row (P:=Tryz.prog) WF (w.heap.size+1) 82 82 sheet0 (0,0) _ HoF.out Tryz.underlying82 rfl (by kernel_rfl))) rfl ⟨f0,(fun S h=>by rw [HS.out] at h;simp at h),HBF.out,.inl ⟨7,sheet0,HS.out,by decide,rfl,Qg,rfl⟩⟩
 have hp':=Decidable.not_not.1 hp
 rw [decide_eq_true hp']
 clear hp
 go_wp2_with fail
 refine (NU ra rcap r w1 hrm HL0.out).mono ?_
 rintro e w2 ⟨rfl,hb2⟩
 have HB2:=hid (HBW.out.trans (hb2.mono HBW.out.size))
 have Ho2:=hid (jd hb2 Ho0.out)
 have Hq2:=hid (jd hb2 Hq0.out)
 have hz2:=hb2.size
 have HL2:=hid (Hl.out.later HB2.out)
 clear hb2 HBW
 have HBW:=HB2
 cases hr:xI r with
 | false =>
  have HS:Hid (xg file pre r trust=(1,none)):=by show _=_;unfold xg;rw [if_neg (by omega),if_pos hr]
  clear hr
  go_wp2_with (refine wpList_store_row rfl 82 (.tmp 8) (.tmp 19) rfl (w.heap.size+1) sheet0 rfl rfl 82 sheet0 Hq2.out (by kernel_rfl) rfl (by simp [Value.oneCell']) ?_)
  have HoF:=hid (setRow_heap w2 (w.heap.size+1) _ sheet0 82 (0,0) Hq2.out)
  have HBF:=hid (HBW.out.trans (jq (jy w2 (w.heap.size+1) sheet0) (by omega) HBW.out.size))
  generalize w2.setRow _ _=WF at *
  exact bodyPost_ret (v:=.tuple #[.agg sheet0,.int .i64 1]) (qY (p:=8) (q:=9) rfl _ _ _ _ _ rfl rfl (run_loadVar_row (P:=Tryz.prog) WF (w.heap.size+1) 82 82 sheet0 (0,0) _ HoF.out Tryz.underlying82 rfl (by kernel_rfl))) rfl ⟨f0,(fun S h=>by rw [HS.out] at h;simp at h),HBF.out,.inl ⟨1,sheet0,HS.out,by decide,rfl,Qg,rfl⟩⟩
 | true =>
  have Hr:=hid hr
  clear hr
  have hcell:w2.cell? ⟨w.heap.size,0,none⟩=some (strB file):=by rw [jb Ho2.out];rfl
  have HCell:=hid hcell
  clear hcell
  go_wp2_with fail
  refine (BA file w.heap.size w2 Hfl.out HCell.out).mono ?_
  rintro e w3 ⟨hb3,⟨hn,rfl⟩|⟨f,hf,rfl⟩⟩
  ·have HS:Hid (xg file pre r trust=(9,none)):=by show _=_;unfold xg;rw [if_neg (by omega),if_neg (by rw [Hr.out];decide)];simp only [hn]
   have HB3:=hid (HB2.out.trans (hb3.mono HB2.out.size))
   have Hq3:=hid (jd hb3 Hq2.out)
   clear hb3 hn HBW
   obtain ⟨hbA,hlA,_,hoA⟩:=jK w3 form0 77
   have hqlt:=(Array.getElem?_eq_some_iff.1 Hq3.out).1
   have gA:=jy (w3.alloc (.cells form0 77)) w3.heap.size form0
   have hqA:=jk gA (jd hbA Hq3.out) (by omega)
   have HBW:=hid ((HB3.out.trans (hbA.mono HB3.out.size)).trans (jq gA HB3.out.size (Nat.le_trans HB3.out.size hbA.size)))
   go_wp2_with (first
    | (refine wpList_store_row rfl 77 (.tmp 10) (.tmp 23) rfl w3.heap.size form0 rfl rfl 77 form0 hoA (by kernel_rfl) rfl (by simp [Value.oneCell']) ?_)
    | (refine wpList_store_row rfl 82 (.tmp 8) (.tmp 28) rfl (w.heap.size+1) sheet0 rfl rfl 82 sheet0 hqA (by kernel_rfl) rfl (by simp [Value.oneCell']) ?_))
   show bodyPost _ _ _ _ _ (((w3.alloc (.cells form0 77)).setRow w3.heap.size form0).setRow (w.heap.size+1) sheet0)
   have HqA:=hid hqA
   clear hoA hqA gA hbA
   generalize (w3.alloc _).setRow _ _=w4 at *
   have HoF:=hid (setRow_heap w4 (w.heap.size+1) _ sheet0 82 (0,0) HqA.out)
   have HBF:=hid (HBW.out.trans (jq (jy w4 (w.heap.size+1) sheet0) (by omega) HBW.out.size))
   generalize w4.setRow _ _=WF at *
   exact bodyPost_ret (v:=.tuple #[.agg sheet0,.int .i64 9]) (qY (p:=8) (q:=9) rfl _ _ _ _ _ rfl rfl (run_loadVar_row (P:=Tryz.prog) WF (w.heap.size+1) 82 82 sheet0 (0,0) _ HoF.out Tryz.underlying82 rfl (by kernel_rfl))) rfl ⟨f0,(fun S h=>by rw [HS.out] at h;simp at h),HBF.out,.inl ⟨9,sheet0,HS.out,by decide,rfl,Qg,rfl⟩⟩
  ·have hok:=(Kj hf).1
   obtain ⟨hl1,hl2,hl3⟩:=hok.lens
   have hsh:=hok.short
   have hah:(qg f).length≤65000:=by
    have h1:=(Zf f).2.2
    have h2:=(zO hok rfl).len
    omega
   have hnon:f.nonce.length≤1000:=by rw [hok.nonce];decide
   have hbd:f.body.length≤maxLen:=Nat.le_trans hl2 (by decide)
   have hft:f.footer.length≤maxLen:=Nat.le_trans hl3 (by decide)
   have HTO:Hid (f.told=true→∀ w',LiesK w' ra r→Calls Tryz.prog 43 #[.agg (formC f),strB pre,.slice ra r.length rcap,.bool trust] w' (Uj (Ko f (jw r (f.foot:Int)) (xr (ji r (f.foot:Int)) f.nonce (qd pre f) f.body) trust) f w')):=fun ht w' h=>Iz f pre ra rcap r trust w' ht hah hft hp' hnon hbd Hr.out hrm h
   have HHI:Hid (f.told=false→∀ w',LiesK w' ra r→Calls Tryz.prog 44 #[.agg (formC f),strB pre,.slice ra r.length rcap] w' (Uj (GS f (jw r (f.foot:Int)) (xr (ji r (f.foot:Int)) f.nonce (qd pre f) f.body)) f w')):=fun ht w' h=>NS f pre ra rcap r w' ht hah hp' (by rw [hok.none_ ht];decide) (by
    have:=JO pre (if f.told=true then 83 else 70) 0 0 0 hp'
    unfold qd
    rw [List.length_append,hok.none_ ht]
    simp only [List.length_nil]
    omega) hnon hbd Hr.out hrm h
   have HB3:=hid (HB2.out.trans (hb3.mono HB2.out.size))
   have Hq3:=hid (jd hb3 Hq2.out)
   have HF:=hid hf
   have HNO:Hid (f.told=false→f.footer=[]):=hok.none_
   clear hb3 hf hok hl1 hl2 hl3 hsh hah hnon hbd hft HBW
   obtain ⟨hbA,hlA,_,hoA⟩:=jK w3 form0 77
   have hqlt:=(Array.getElem?_eq_some_iff.1 Hq3.out).1
   have gA:=jy (w3.alloc (.cells form0 77)) w3.heap.size (formC f)
   have oA:=setRow_heap (w3.alloc (.cells form0 77)) w3.heap.size _ (formC f) 77 (0,0) hoA
   have hqA:=jk gA (jd hbA Hq3.out) (by omega)
   have x1:((w3.alloc (.cells form0 77)).setRow w3.heap.size (formC f)).cell? ⟨w3.heap.size,1,none⟩=some (.bool f.told):=by rw [jb oA];rfl
   have HBA:=hid ((HB3.out.trans (hbA.mono HB3.out.size)).trans (jq gA HB3.out.size (Nat.le_trans HB3.out.size hbA.size)))
   have hone0:=UF f
   have HLA:=hid (Hl.out.later HBA.out)
   have hFV:formV f=.agg (formC f):=rfl
   rw [hFV]
   clear hFV
   have hFi:(Tryz.prog.info? 77).map (·.size)=some (formC f).size:=by kernel_rfl
   have hFz:form0.size=(formC f).size:=rfl
   generalize formC f=FC at *
   cases ht:f.told
   case' true =>
    rw [ht] at x1
    have HSF:Hid (xg file pre r trust=Ko f (jw r (f.foot:Int)) (xr (ji r (f.foot:Int)) f.nonce (qd pre f) f.body) trust):=by
     show _=_
     unfold xg Ko
     rw [if_neg (by omega),if_neg (by rw [Hr.out];decide)]
     simp only [HF.out,ht,if_true]
     unfold qd
     rw [ht]
     rfl
    have HCALL:=hid (HTO.out ht)
   case' false =>
    rw [ht] at x1
    have HSF:Hid (xg file pre r trust=GS f (jw r (f.foot:Int)) (xr (ji r (f.foot:Int)) f.nonce (qd pre f) f.body)):=by
     show _=_
     unfold xg GS
     rw [if_neg (by omega),if_neg (by rw [Hr.out];decide)]
     simp only [HF.out,ht,Bool.false_eq_true,if_false]
     unfold qd
     rw [ht,HNO.out ht]
     simp only [Bool.false_eq_true,if_false,List.append_nil]
     rfl
    have HCALL:=hid (HHI.out ht)
   all_goals
    clear ht
    go_wp2_with (first
     | (refine wpList_store_row rfl 77 (.tmp 10) (.tmp 23) rfl w3.heap.size FC rfl rfl 77 form0 hoA hFi hFz hone0 ?_)
     | (refine wpList_load_row rfl 77 (.tmp 10) rfl w3.heap.size rfl 77 FC (0,0) _ oA Tryz.underlying77 rfl hFi ?_))
    show Calls _ _ _ ((w3.alloc (.cells form0 77)).setRow w3.heap.size FC) _
    have HqA:=hid hqA
    clear hoA hqA gA hbA oA x1
    generalize (w3.alloc _).setRow _ _=w4 at *
    refine (HCALL.out w4 HLA.out).mono ?_
   next =>
    rintro e w5 ⟨hb5,⟨err,C,hres,hne,hC,hC1,rfl⟩|⟨S,cv,pv,Kb,V,Qp,Qm,Pv,hres,rfl,hin⟩⟩
    ·have HR:=hid (HSF.out.trans hres)
     have HB5:=hid (HBA.out.trans (hb5.mono HBA.out.size))
     have Hq5:=hid (jd hb5 HqA.out)
     have hinf:(Tryz.prog.info? 82).map (·.size)=some C.size:=by rw [hC];kernel_rfl
     have hsz0:sheet0.size=C.size:=by rw [hC];rfl
     have HC:=hid hC
     have Hne:=hid hne
     clear hb5 hres hC hne
     go_wp2_with (refine wpList_store_row rfl 82 (.tmp 8) (.tmp 43) rfl (w.heap.size+1) C rfl rfl 82 sheet0 Hq5.out hinf hsz0 hC1 ?_)
     have HoF:=hid (setRow_heap w5 (w.heap.size+1) _ C 82 (0,0) Hq5.out)
     have HBF:=hid (HB5.out.trans (jq (jy w5 (w.heap.size+1) C) (by omega) HB5.out.size))
     generalize w5.setRow _ _=WF at *
     exact bodyPost_ret (v:=.tuple #[.agg C,.int .i64 err]) (qY (p:=8) (q:=9) rfl _ _ _ _ _ rfl rfl (run_loadVar_row (P:=Tryz.prog) WF (w.heap.size+1) 82 82 C (0,0) _ HoF.out Tryz.underlying82 rfl hinf)) rfl ⟨f,(fun _ _=>HF.out),HBF.out,.inl ⟨err,C,HR.out,Hne.out,HC.out,hC1,rfl⟩⟩
    ·have HR:=hid (HSF.out.trans hres)
     have HB5:=hid (HBA.out.trans (hb5.mono HBA.out.size))
     have Hq5:=hid (jd hb5 HqA.out)
     obtain ⟨_,hsz,hone⟩:=hin.one
     have HIN:=hid (hin.lower (b:=w.heap.size) HBA.out.size)
     clear hb5 hres hin
     generalize hCC:qR S f cv pv Kb=CC at *
     have HCC:=hid hCC
     clear hCC
     have hinf:(Tryz.prog.info? 82).map (·.size)=some CC.size:=by rw [hsz];kernel_rfl
     have hsz0:sheet0.size=CC.size:=by rw [hsz];rfl
     clear hsz
     go_wp2_with (refine wpList_store_row rfl 82 (.tmp 8) (.tmp 43) rfl (w.heap.size+1) CC rfl rfl 82 sheet0 Hq5.out hinf hsz0 hone ?_)
     have HoF:=hid (setRow_heap w5 (w.heap.size+1) _ CC 82 (0,0) Hq5.out)
     have HBF:=hid (HB5.out.trans (jq (jy w5 (w.heap.size+1) CC) (by omega) HB5.out.size))
     have HIF:=hid (HIN.out.grown (jy w5 (w.heap.size+1) CC) Hq5.out (by decide) (by decide) (by decide) (by decide))
     generalize w5.setRow _ _=WF at *
     exact bodyPost_ret (v:=.tuple #[.agg CC,.int .i64 0]) (qY (p:=8) (q:=9) rfl _ _ _ _ _ rfl rfl (run_loadVar_row (P:=Tryz.prog) WF (w.heap.size+1) 82 82 CC (0,0) _ HoF.out Tryz.underlying82 rfl hinf)) rfl ⟨f,(fun _ _=>HF.out),HBF.out,.inr ⟨S,cv,pv,Kb,V,Qp,Qm,Pv,HR.out,by rw [HCC.out],by rw [HCC.out];exact HIF.out⟩⟩
   next =>
    rintro e w5 ⟨hb5,⟨err,C,hres,hne,hC,hC1,rfl⟩|⟨S,cv,pv,Kb,V,Qp,Qm,Pv,hres,rfl,hin⟩⟩
    ·have HR:=hid (HSF.out.trans hres)
     have HB5:=hid (HBA.out.trans (hb5.mono HBA.out.size))
     have Hq5:=hid (jd hb5 HqA.out)
     have hinf:(Tryz.prog.info? 82).map (·.size)=some C.size:=by rw [hC];kernel_rfl
     have hsz0:sheet0.size=C.size:=by rw [hC];rfl
     have HC:=hid hC
     have Hne:=hid hne
     clear hb5 hres hC hne
     go_wp2_with (refine wpList_store_row rfl 82 (.tmp 8) (.tmp 37) rfl (w.heap.size+1) C rfl rfl 82 sheet0 Hq5.out hinf hsz0 hC1 ?_)
     have HoF:=hid (setRow_heap w5 (w.heap.size+1) _ C 82 (0,0) Hq5.out)
     have HBF:=hid (HB5.out.trans (jq (jy w5 (w.heap.size+1) C) (by omega) HB5.out.size))
     generalize w5.setRow _ _=WF at *
     exact bodyPost_ret (v:=.tuple #[.agg C,.int .i64 err]) (qY (p:=8) (q:=9) rfl _ _ _ _ _ rfl rfl (run_loadVar_row (P:=Tryz.prog) WF (w.heap.size+1) 82 82 C (0,0) _ HoF.out Tryz.underlying82 rfl hinf)) rfl ⟨f,(fun _ _=>HF.out),HBF.out,.inl ⟨err,C,HR.out,Hne.out,HC.out,hC1,rfl⟩⟩
    ·have HR:=hid (HSF.out.trans hres)
     have HB5:=hid (HBA.out.trans (hb5.mono HBA.out.size))
     have Hq5:=hid (jd hb5 HqA.out)
     obtain ⟨_,hsz,hone⟩:=hin.one
     have HIN:=hid (hin.lower (b:=w.heap.size) HBA.out.size)
     clear hb5 hres hin
     generalize hCC:qR S f cv pv Kb=CC at *
     have HCC:=hid hCC
     clear hCC
     have hinf:(Tryz.prog.info? 82).map (·.size)=some CC.size:=by rw [hsz];kernel_rfl
     have hsz0:sheet0.size=CC.size:=by rw [hsz];rfl
     clear hsz
     go_wp2_with (refine wpList_store_row rfl 82 (.tmp 8) (.tmp 37) rfl (w.heap.size+1) CC rfl rfl 82 sheet0 Hq5.out hinf hsz0 hone ?_)
     have HoF:=hid (setRow_heap w5 (w.heap.size+1) _ CC 82 (0,0) Hq5.out)
     have HBF:=hid (HB5.out.trans (jq (jy w5 (w.heap.size+1) CC) (by omega) HB5.out.size))
     have HIF:=hid (HIN.out.grown (jy w5 (w.heap.size+1) CC) Hq5.out (by decide) (by decide) (by decide) (by decide))
     generalize w5.setRow _ _=WF at *
     exact bodyPost_ret (v:=.tuple #[.agg CC,.int .i64 0]) (qY (p:=8) (q:=9) rfl _ _ _ _ _ rfl rfl (run_loadVar_row (P:=Tryz.prog) WF (w.heap.size+1) 82 82 CC (0,0) _ HoF.out Tryz.underlying82 rfl hinf)) rfl ⟨f,(fun _ _=>HF.out),HBF.out,.inr ⟨S,cv,pv,Kb,V,Qp,Qm,Pv,HR.out,by rw [HCC.out],by rw [HCC.out];exact HIF.out⟩⟩
end Go.Proofs.YthhpbhpfagoapabGreat
