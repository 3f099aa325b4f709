import Derived.Test.YthhpbhpfagoapabGreatJBA
import Derived.Test.YthhpbhpfagoapabGreatJBC
import Derived.Test.YthhpbhpfagoapabGreatWChunk
import Derived.Test.YthhpbhpfagoapabGreatJAS
import Derived.Test.YthhpbhpfagoapabGreatRTk
namespace Go.Proofs.YthhpbhpfagoapabGreat
set_option linter.unusedVariables false
set_option linter.unusedSimpArgs false
set_option maxRecDepth 100000
set_option maxHeartbeats 16000000
open Go.RowKit
section
def MU (file pre:List UInt8) (r:List KeyB) (trust:Bool) (w:World) (e:Ending) (w':World):Prop :=
 ∃ f:FormF,(∀ S,xe file pre r trust=(0,some S)→zd file=some f)∧KT (xe file pre r trust) f w e w'
def f0:FormF:=⟨false,0,[],[],[],[]⟩
theorem UM (file pre:List UInt8) (ra:Option Addr) (rcap:Nat) (r:List KeyB) (trust:Bool) (w:World) (hfl:file.length≤maxLen) (hpl:pre.length≤maxLen) (hrm:r.length≤maxLen) (hl:LiesK w ra r) :
  Calls Tryz.prog 24 #[strB file,strB pre,.slice ra r.length rcap,.bool trust] w (MU file pre r trust w):=by
 have hmf:∀ (fn:Fn) (first cap:Array Value) (w:World),(Instr.makeFunc fn first cap).run Tryz.prog w=.ok (.func fn first cap) w:=fun _ _ _ _=>rfl
 have Hfl:=hid hfl
 have Hpl:=hid hpl
 have Hl:=hid hl
 clear hfl hpl hl
 obtain ⟨hb0,hl0,ho0,hq0⟩:=JQ w #[strB file] 9 sheet0 82
 go_enter Tryz.func24,Tryz.ntmps24
 go_wp2_with fail
 have HL0:=hid (Hl.out.later hb0)
 generalize (w.alloc _).alloc _=W0 at *
 have HBW:=hid hb0
 have Ho0:=hid ho0
 have Hq0:=hid hq0
 clear hb0 ho0 hq0
 refine (Vp pre W0 Hpl.out).mono ?_
 rintro e w1 ⟨rfl,rfl⟩
 by_cases hp:¬ pre.length≤20
 ·have HS:Hid (xe file pre r trust=(7,none)):=by show _=_;unfold xe;rw [if_pos (by omega)]
  rw [decide_eq_false hp]
  clear hp
  go_wp2_with (refine wpList_store_row rfl 82 (.tmp 8) (.tmp 15) rfl (w.heap.size+1) sheet0 rfl rfl 82 sheet0 Hq0.out (by kernel_rfl) rfl (by simp [Value.oneCell']) ?_)
  have HoF:=hid (setRow_heap w1 (w.heap.size+1) _ sheet0 82 (0,0) Hq0.out)
  have HBF:=hid (HBW.out.trans (jq (jx w1 (w.heap.size+1) sheet0) (by omega) HBW.out.size))
  generalize w1.setRow _ _=WF at *
  exact bodyPost_ret (v:=.tuple #[.agg sheet0,.int .i64 7]) (qV (p:=8) (q:=9) rfl _ _ _ _ _ rfl rfl (run_loadVar_row (P:=Tryz.prog) WF (w.heap.size+1) 82 82 sheet0 (0,0) _ HoF.out Tryz.underlying82 rfl (by kernel_rfl))) rfl ⟨f0,(fun S h=>by rw [HS.out] at h;simp at h),HBF.out,.inl ⟨7,sheet0,HS.out,by decide,rfl,Qe,rfl⟩⟩
 have hp':=Decidable.not_not.1 hp
 rw [decide_eq_true hp']
 clear hp
 go_wp2_with fail
 refine (NE ra rcap r w1 hrm HL0.out).mono ?_
 rintro e w2 ⟨rfl,hb2⟩
 have HB2:=hid (HBW.out.trans (hb2.mono HBW.out.size))
 have Ho2:=hid (jd hb2 Ho0.out)
 have Hq2:=hid (jd hb2 Hq0.out)
 have hz2:=hb2.size
 have HL2:=hid (Hl.out.later HB2.out)
 clear hb2 HBW
 have HBW:=HB2
 cases hr:xH r with
 | false =>
  have HS:Hid (xe file pre r trust=(1,none)):=by show _=_;unfold xe;rw [if_neg (by omega),if_pos hr]
  clear hr
  go_wp2_with (refine wpList_store_row rfl 82 (.tmp 8) (.tmp 19) rfl (w.heap.size+1) sheet0 rfl rfl 82 sheet0 Hq2.out (by kernel_rfl) rfl (by simp [Value.oneCell']) ?_)
  have HoF:=hid (setRow_heap w2 (w.heap.size+1) _ sheet0 82 (0,0) Hq2.out)
  have HBF:=hid (HBW.out.trans (jq (jx w2 (w.heap.size+1) sheet0) (by omega) HBW.out.size))
  generalize w2.setRow _ _=WF at *
  exact bodyPost_ret (v:=.tuple #[.agg sheet0,.int .i64 1]) (qV (p:=8) (q:=9) rfl _ _ _ _ _ rfl rfl (run_loadVar_row (P:=Tryz.prog) WF (w.heap.size+1) 82 82 sheet0 (0,0) _ HoF.out Tryz.underlying82 rfl (by kernel_rfl))) rfl ⟨f0,(fun S h=>by rw [HS.out] at h;simp at h),HBF.out,.inl ⟨1,sheet0,HS.out,by decide,rfl,Qe,rfl⟩⟩
 | true =>
  have Hr:=hid hr
  clear hr
  have hcell:w2.cell? ⟨w.heap.size,0,none⟩=some (strB file):=by rw [jb Ho2.out];rfl
  have HCell:=hid hcell
  clear hcell
  go_wp2_with fail
  refine (Lw file w.heap.size w2 Hfl.out HCell.out).mono ?_
  rintro e w3 ⟨hb3,⟨hn,rfl⟩|⟨f,hf,rfl⟩⟩
  ·have HS:Hid (xe file pre r trust=(9,none)):=by show _=_;unfold xe;rw [if_neg (by omega),if_neg (by rw [Hr.out];decide)];simp only [hn]
   have HB3:=hid (HB2.out.trans (hb3.mono HB2.out.size))
   have Hq3:=hid (jd hb3 Hq2.out)
   clear hb3 hn HBW
   obtain ⟨hbA,hlA,_,hoA⟩:=jJ w3 form0 77
   have hqlt:=(Array.getElem?_eq_some_iff.1 Hq3.out).1
   have gA:=jx (w3.alloc (.cells form0 77)) w3.heap.size form0
   have hqA:=jk gA (jd hbA Hq3.out) (by omega)
   have HBW:=hid ((HB3.out.trans (hbA.mono HB3.out.size)).trans (jq gA HB3.out.size (Nat.le_trans HB3.out.size hbA.size)))
   go_wp2_with (first
    | (refine wpList_store_row rfl 77 (.tmp 10) (.tmp 23) rfl w3.heap.size form0 rfl rfl 77 form0 hoA (by kernel_rfl) rfl (by simp [Value.oneCell']) ?_)
    | (refine wpList_store_row rfl 82 (.tmp 8) (.tmp 28) rfl (w.heap.size+1) sheet0 rfl rfl 82 sheet0 hqA (by kernel_rfl) rfl (by simp [Value.oneCell']) ?_))
   show bodyPost _ _ _ _ _ (((w3.alloc (.cells form0 77)).setRow w3.heap.size form0).setRow (w.heap.size+1) sheet0)
   have HqA:=hid hqA
   clear hoA hqA gA hbA
   generalize (w3.alloc _).setRow _ _=w4 at *
   have HoF:=hid (setRow_heap w4 (w.heap.size+1) _ sheet0 82 (0,0) HqA.out)
   have HBF:=hid (HBW.out.trans (jq (jx w4 (w.heap.size+1) sheet0) (by omega) HBW.out.size))
   generalize w4.setRow _ _=WF at *
   exact bodyPost_ret (v:=.tuple #[.agg sheet0,.int .i64 9]) (qV (p:=8) (q:=9) rfl _ _ _ _ _ rfl rfl (run_loadVar_row (P:=Tryz.prog) WF (w.heap.size+1) 82 82 sheet0 (0,0) _ HoF.out Tryz.underlying82 rfl (by kernel_rfl))) rfl ⟨f0,(fun S h=>by rw [HS.out] at h;simp at h),HBF.out,.inl ⟨9,sheet0,HS.out,by decide,rfl,Qe,rfl⟩⟩
  ·have hok:=(ZY hf).1
   obtain ⟨hl1,hl2,hl3⟩:=hok.lens
   have hsh:=hok.short
   have hah:(qg f).length≤65000:=by
    have h1:=(Za f).2.2
    have h2:=(zO hok rfl).len
    omega
   have hnon:f.nonce.length≤1000:=by rw [hok.nonce];decide
   have hbd:f.body.length≤maxLen:=Nat.le_trans hl2 (by decide)
   have hft:f.footer.length≤maxLen:=Nat.le_trans hl3 (by decide)
   have HTO:Hid (f.told=true→∀ w',LiesK w' ra r→Calls Tryz.prog 43 #[.agg (formC f),strB pre,.slice ra r.length rcap,.bool trust] w' (KT (Kj f (jw r (f.foot:Int)) (xp (ji r (f.foot:Int)) f.nonce (qd pre f) f.body) trust) f w')):=fun ht w' h=>Ie f pre ra rcap r trust w' ht hah hft hp' hnon hbd Hr.out hrm h
   have HHI:Hid (f.told=false→∀ w',LiesK w' ra r→Calls Tryz.prog 44 #[.agg (formC f),strB pre,.slice ra r.length rcap] w' (KT (GH f (jw r (f.foot:Int)) (xp (ji r (f.foot:Int)) f.nonce (qd pre f) f.body)) f w')):=fun ht w' h=>Rx f pre ra rcap r w' ht hah hp' (by rw [hok.none_ ht];decide) (by
    have:=JN pre (if f.told=true then 83 else 70) 0 0 0 hp'
    unfold qd
    rw [List.length_append,hok.none_ ht]
    simp only [List.length_nil]
    omega) hnon hbd Hr.out hrm h
   have HB3:=hid (HB2.out.trans (hb3.mono HB2.out.size))
   have Hq3:=hid (jd hb3 Hq2.out)
   have HF:=hid hf
   have HNO:Hid (f.told=false→f.footer=[]):=hok.none_
   clear hb3 hf hok hl1 hl2 hl3 hsh hah hnon hbd hft HBW
   obtain ⟨hbA,hlA,_,hoA⟩:=jJ w3 form0 77
   have hqlt:=(Array.getElem?_eq_some_iff.1 Hq3.out).1
   have gA:=jx (w3.alloc (.cells form0 77)) w3.heap.size (formC f)
   have oA:=setRow_heap (w3.alloc (.cells form0 77)) w3.heap.size _ (formC f) 77 (0,0) hoA
   have hqA:=jk gA (jd hbA Hq3.out) (by omega)
   have x1:((w3.alloc (.cells form0 77)).setRow w3.heap.size (formC f)).cell? ⟨w3.heap.size,1,none⟩=some (.bool f.told):=by rw [jb oA];rfl
   have HBA:=hid ((HB3.out.trans (hbA.mono HB3.out.size)).trans (jq gA HB3.out.size (Nat.le_trans HB3.out.size hbA.size)))
   have hone0:=Uv f
   have HLA:=hid (Hl.out.later HBA.out)
   have hFV:formV f=.agg (formC f):=rfl
   rw [hFV]
   clear hFV
   have hFi:(Tryz.prog.info? 77).map (·.size)=some (formC f).size:=by kernel_rfl
   have hFz:form0.size=(formC f).size:=rfl
   generalize formC f=FC at *
   cases ht:f.told
   case' true =>
    rw [ht] at x1
    have HSF:Hid (xe file pre r trust=Kj f (jw r (f.foot:Int)) (xp (ji r (f.foot:Int)) f.nonce (qd pre f) f.body) trust):=by
     show _=_
     unfold xe Kj
     rw [if_neg (by omega),if_neg (by rw [Hr.out];decide)]
     simp only [HF.out,ht,if_true]
     unfold qd
     rw [ht]
     rfl
    have HCALL:=hid (HTO.out ht)
   case' false =>
    rw [ht] at x1
    have HSF:Hid (xe file pre r trust=GH f (jw r (f.foot:Int)) (xp (ji r (f.foot:Int)) f.nonce (qd pre f) f.body)):=by
     show _=_
     unfold xe GH
     rw [if_neg (by omega),if_neg (by rw [Hr.out];decide)]
     simp only [HF.out,ht,Bool.false_eq_true,if_false]
     unfold qd
     rw [ht,HNO.out ht]
     simp only [Bool.false_eq_true,if_false,List.append_nil]
     rfl
    have HCALL:=hid (HHI.out ht)
   all_goals
    clear ht
    go_wp2_with (first
     | (refine wpList_store_row rfl 77 (.tmp 10) (.tmp 23) rfl w3.heap.size FC rfl rfl 77 form0 hoA hFi hFz hone0 ?_)
     | (refine wpList_load_row rfl 77 (.tmp 10) rfl w3.heap.size rfl 77 FC (0,0) _ oA Tryz.underlying77 rfl hFi ?_))
    show Calls _ _ _ ((w3.alloc (.cells form0 77)).setRow w3.heap.size FC) _
    have HqA:=hid hqA
    clear hoA hqA gA hbA oA x1
    generalize (w3.alloc _).setRow _ _=w4 at *
    refine (HCALL.out w4 HLA.out).mono ?_
   next =>
    rintro e w5 ⟨hb5,⟨err,C,hres,hne,hC,hC1,rfl⟩|⟨S,cv,pv,Kb,V,Qp,Qm,Pv,hres,rfl,hin⟩⟩
    ·have HR:=hid (HSF.out.trans hres)
     have HB5:=hid (HBA.out.trans (hb5.mono HBA.out.size))
     have Hq5:=hid (jd hb5 HqA.out)
     have hinf:(Tryz.prog.info? 82).map (·.size)=some C.size:=by rw [hC];kernel_rfl
     have hsz0:sheet0.size=C.size:=by rw [hC];rfl
     have HC:=hid hC
     have Hne:=hid hne
     clear hb5 hres hC hne
     go_wp2_with (refine wpList_store_row rfl 82 (.tmp 8) (.tmp 43) rfl (w.heap.size+1) C rfl rfl 82 sheet0 Hq5.out hinf hsz0 hC1 ?_)
     have HoF:=hid (setRow_heap w5 (w.heap.size+1) _ C 82 (0,0) Hq5.out)
     have HBF:=hid (HB5.out.trans (jq (jx w5 (w.heap.size+1) C) (by omega) HB5.out.size))
     generalize w5.setRow _ _=WF at *
     exact bodyPost_ret (v:=.tuple #[.agg C,.int .i64 err]) (qV (p:=8) (q:=9) rfl _ _ _ _ _ rfl rfl (run_loadVar_row (P:=Tryz.prog) WF (w.heap.size+1) 82 82 C (0,0) _ HoF.out Tryz.underlying82 rfl hinf)) rfl ⟨f,(fun _ _=>HF.out),HBF.out,.inl ⟨err,C,HR.out,Hne.out,HC.out,hC1,rfl⟩⟩
    ·have HR:=hid (HSF.out.trans hres)
     have HB5:=hid (HBA.out.trans (hb5.mono HBA.out.size))
     have Hq5:=hid (jd hb5 HqA.out)
     obtain ⟨_,hsz,hone⟩:=hin.one
     have HIN:=hid (hin.lower (b:=w.heap.size) HBA.out.size)
     clear hb5 hres hin
     generalize hCC:qO S f cv pv Kb=CC at *
     have HCC:=hid hCC
     clear hCC
     have hinf:(Tryz.prog.info? 82).map (·.size)=some CC.size:=by rw [hsz];kernel_rfl
     have hsz0:sheet0.size=CC.size:=by rw [hsz];rfl
     clear hsz
     go_wp2_with (refine wpList_store_row rfl 82 (.tmp 8) (.tmp 43) rfl (w.heap.size+1) CC rfl rfl 82 sheet0 Hq5.out hinf hsz0 hone ?_)
     have HoF:=hid (setRow_heap w5 (w.heap.size+1) _ CC 82 (0,0) Hq5.out)
     have HBF:=hid (HB5.out.trans (jq (jx w5 (w.heap.size+1) CC) (by omega) HB5.out.size))
     have HIF:=hid (HIN.out.grown (jx w5 (w.heap.size+1) CC) Hq5.out (by decide) (by decide) (by decide) (by decide))
     generalize w5.setRow _ _=WF at *
     exact bodyPost_ret (v:=.tuple #[.agg CC,.int .i64 0]) (qV (p:=8) (q:=9) rfl _ _ _ _ _ rfl rfl (run_loadVar_row (P:=Tryz.prog) WF (w.heap.size+1) 82 82 CC (0,0) _ HoF.out Tryz.underlying82 rfl hinf)) rfl ⟨f,(fun _ _=>HF.out),HBF.out,.inr ⟨S,cv,pv,Kb,V,Qp,Qm,Pv,HR.out,by rw [HCC.out],by rw [HCC.out];exact HIF.out⟩⟩
   next =>
    rintro e w5 ⟨hb5,⟨err,C,hres,hne,hC,hC1,rfl⟩|⟨S,cv,pv,Kb,V,Qp,Qm,Pv,hres,rfl,hin⟩⟩
    ·have HR:=hid (HSF.out.trans hres)
     have HB5:=hid (HBA.out.trans (hb5.mono HBA.out.size))
     have Hq5:=hid (jd hb5 HqA.out)
     have hinf:(Tryz.prog.info? 82).map (·.size)=some C.size:=by rw [hC];kernel_rfl
     have hsz0:sheet0.size=C.size:=by rw [hC];rfl
     have HC:=hid hC
     have Hne:=hid hne
     clear hb5 hres hC hne
     go_wp2_with (refine wpList_store_row rfl 82 (.tmp 8) (.tmp 37) rfl (w.heap.size+1) C rfl rfl 82 sheet0 Hq5.out hinf hsz0 hC1 ?_)
     have HoF:=hid (setRow_heap w5 (w.heap.size+1) _ C 82 (0,0) Hq5.out)
     have HBF:=hid (HB5.out.trans (jq (jx w5 (w.heap.size+1) C) (by omega) HB5.out.size))
     generalize w5.setRow _ _=WF at *
     exact bodyPost_ret (v:=.tuple #[.agg C,.int .i64 err]) (qV (p:=8) (q:=9) rfl _ _ _ _ _ rfl rfl (run_loadVar_row (P:=Tryz.prog) WF (w.heap.size+1) 82 82 C (0,0) _ HoF.out Tryz.underlying82 rfl hinf)) rfl ⟨f,(fun _ _=>HF.out),HBF.out,.inl ⟨err,C,HR.out,Hne.out,HC.out,hC1,rfl⟩⟩
    ·have HR:=hid (HSF.out.trans hres)
     have HB5:=hid (HBA.out.trans (hb5.mono HBA.out.size))
     have Hq5:=hid (jd hb5 HqA.out)
     obtain ⟨_,hsz,hone⟩:=hin.one
     have HIN:=hid (hin.lower (b:=w.heap.size) HBA.out.size)
     clear hb5 hres hin
     generalize hCC:qO S f cv pv Kb=CC at *
     have HCC:=hid hCC
     clear hCC
     have hinf:(Tryz.prog.info? 82).map (·.size)=some CC.size:=by rw [hsz];kernel_rfl
     have hsz0:sheet0.size=CC.size:=by rw [hsz];rfl
     clear hsz
     go_wp2_with (refine wpList_store_row rfl 82 (.tmp 8) (.tmp 37) rfl (w.heap.size+1) CC rfl rfl 82 sheet0 Hq5.out hinf hsz0 hone ?_)
     have HoF:=hid (setRow_heap w5 (w.heap.size+1) _ CC 82 (0,0) Hq5.out)
     have HBF:=hid (HB5.out.trans (jq (jx w5 (w.heap.size+1) CC) (by omega) HB5.out.size))
     have HIF:=hid (HIN.out.grown (jx w5 (w.heap.size+1) CC) Hq5.out (by decide) (by decide) (by decide) (by decide))
     generalize w5.setRow _ _=WF at *
     exact bodyPost_ret (v:=.tuple #[.agg CC,.int .i64 0]) (qV (p:=8) (q:=9) rfl _ _ _ _ _ rfl rfl (run_loadVar_row (P:=Tryz.prog) WF (w.heap.size+1) 82 82 CC (0,0) _ HoF.out Tryz.underlying82 rfl hinf)) rfl ⟨f,(fun _ _=>HF.out),HBF.out,.inr ⟨S,cv,pv,Kb,V,Qp,Qm,Pv,HR.out,by rw [HCC.out],by rw [HCC.out];exact HIF.out⟩⟩
end
section
def Me (O:Option (List UInt8)) (w:World) (e:Ending) (w':World):Prop :=
 Below w.heap.size w w'∧((O=none∧e=gaveUp)∨∃ p,O=some p∧e=.returned (strB p))
def JC (sec pre:List UInt8) (key:Int) (s:UInt8) (g c k:Nat) (m:ModF):Option (List UInt8) :=
 if key=0 then some m.plain else xp sec m.nonce (jR pre s g c k) m.body
theorem RM (sb:UInt8) (g c k:Nat) (key:Int) (m:ModF) (sec pre:List UInt8) (w:World) (hm:zv key m) (hg:g≤65535) (hc:c≤65535) (hk:k≤65535) (hpre:pre.length≤20) (hsec:sec.length≤1000) :
  Calls Tryz.prog 112 #[.agg #[strB [sb],.int .i64 (g:Int),.int .i64 (c:Int),.int .i64 (k:Int),strB (jO key m).1,strB (jO key m).2],strB sec,strB pre] w (Me (JC sec pre key sb g c k m) w):=by
 have HEX:Hid (∀ w':World,Calls Tryz.prog 87 #[.agg #[strB [sb],.int .i64 (g:Int),.int .i64 (c:Int),.int .i64 (k:Int)],strB pre,.slice none 0 0] w' fun e w2=>e=.returned (strB (jR pre sb g c k))∧Below w'.heap.size w' w2):=by
  intro w'
  have:=XN sb g c k pre (.slice none 0 0) [] w' hg hc hk hpre (by decide) (KD w')
  rw [List.append_nil] at this
  exact this
 have hbl:=JN pre sb g c k hpre
 rcases hm with ⟨rfl,h1,h2,h3⟩|⟨hk0,h1,h2,h3,h4⟩
 ·have HP:Hid (JC sec pre 0 sb g c k m=some m.plain):=by show _=_;unfold JC;rw [if_pos rfl]
  have e1:(jO 0 m).1=[]:=h1
  have e2:(jO 0 m).2=m.plain:=rfl
  rw [e1,e2]
  clear e1 e2 hbl h1 h2 h3 HEX hg hc hk hpre hsec
  generalize m.plain=T at *
  obtain ⟨hb0,hl0,hx0,ho0⟩:=jJ w #[strB [sb],.int .i64 (g:Int),.int .i64 (c:Int),.int .i64 (k:Int),strB [],strB T] 75
  obtain ⟨⟨x0,x1,x2,x3,x4,x5⟩,_⟩:=XW ho0
  go_enter Tryz.func112,Tryz.ntmps112
  go_wp2
  go_ret
  exact ⟨hb0,.inr ⟨T,HP.out,rfl⟩⟩
 ·have HP:Hid (JC sec pre key sb g c k m=xp sec m.nonce (jR pre sb g c k) m.body):=by show _=_;unfold JC;rw [if_neg hk0]
  have e1:(jO key m).1=m.nonce:=rfl
  have e2:(jO key m).2=m.body:=by unfold jO;rw [if_neg hk0]
  rw [e1,e2]
  have HPL:=hid (fun w'=>RL sec m.nonce (jR pre sb g c k) m.body w' hsec (by omega) (by omega) (by unfold maxLen;omega))
  have hne:m.nonce.isEmpty=false:=by
   cases h:m.nonce with
   | nil=>rw [h] at h2;simp at h2
   | cons=>rfl
  clear e1 e2 h1 h2 h3 h4 hg hc hk hpre hsec hbl
  generalize xp sec m.nonce (jR pre sb g c k) m.body=O at *
  generalize jR pre sb g c k=ext at *
  generalize m.nonce=NN at *
  generalize m.body=BB at *
  rcases O with _|T
  all_goals
   simp only [GI] at HPL
   obtain ⟨hb0,hl0,_,ho0⟩:=jJ w #[strB [sb],.int .i64 (g:Int),.int .i64 (c:Int),.int .i64 (k:Int),strB NN,strB BB] 75
   obtain ⟨⟨x0,x1,x2,x3,x4,x5⟩,_⟩:=XW ho0
   go_enter Tryz.func112,Tryz.ntmps112
   go_wp2_with fail
   clear hne x0 x1 x2 x3 x4 x5
   generalize w.alloc _=W0 at *
   have HB0:=hid hb0
   have Ho0:=hid ho0
   have HC0:=hid (XW ho0).1
   clear hb0 ho0
   go_region_held3 (fun w'=>w'.cell? ⟨w.heap.size,0,none⟩=some (strB [sb])∧w'.cell? ⟨w.heap.size,1,none⟩=some (.int .i64 (g:Int))∧w'.cell? ⟨w.heap.size,2,none⟩=some (.int .i64 (c:Int))∧w'.cell? ⟨w.heap.size,3,none⟩=some (.int .i64 (k:Int))∧w'.cell? ⟨w.heap.size,4,none⟩=some (strB NN)∧w'.cell? ⟨w.heap.size,5,none⟩=some (strB BB))
    (first|with_reducible exact HC2.out|with_reducible exact HC1.out|exact HC0.out)
    (first
     | (go_at_call 87;refine (HEX.out _).mono ?_;rintro e w1 ⟨rfl,hb1⟩;have hb1':=jl hb1;have HC1:=hid (XW (jd hb1' Ho0.out)).1)
     | (go_at_call 57;refine (HPL.out _).mono ?_;rintro e w2 ⟨rfl,hb2⟩;have HC2:=hid (XW (jd (hb1'.trans (hb2.mono hb1'.size)) Ho0.out)).1))
   have HB2:=hid (HB0.out.trans ((hb1'.trans (hb2.mono hb1'.size)).mono HB0.out.size))
   clear hb1 hb1' hb2
   go_wp2_with fail
  ·refine (qS w2).mono ?_
   rintro e w3 ⟨rfl,rfl⟩
   go_wp2
   exact ⟨rfl,HB2.out,.inl ⟨HP.out,rfl⟩⟩
  ·refine (qe w2).mono ?_
   rintro e w3 ⟨rfl,rfl⟩
   go_wp2
   go_ret
   exact ⟨HB2.out,.inr ⟨T,HP.out,rfl⟩⟩
end
section
theorem KB {s:Nat}:∀ {L:List (List Value)} (h:∀ x ∈ L,x.length=s) {k j:Nat} (hj:j < s),L.flatten[k*s+j]?=(L[k]?).bind (·[j]?):=by
 intro L
 induction L with
 | nil=>intro h k j hj;simp
 | cons x L ih =>
  intro h k j hj
  have hx:=h x (by simp)
  cases k with
  | zero =>
   simp only [List.flatten_cons,Nat.zero_mul,Nat.zero_add]
   rw [List.getElem?_append_left (by omega)]
   simp
  | succ k =>
   simp only [List.flatten_cons]
   rw [List.getElem?_append_right (by rw [hx,Nat.succ_mul];omega),hx,show (k+1)*s+j - s=k*s+j by rw [Nat.succ_mul];omega,ih (fun y hy=>h y (List.mem_cons_of_mem _ hy)) hj]
   simp
theorem Qa {key:Int} {g c:Nat} {mp:List ModF} {k:Nat} {m:ModF} (hk:mp[k]?=some m) {j:Nat} (hj:j < 6):(xQ key g c mp)[k*6+j]?=(Rq key g c k m)[j]?:=by
 unfold xQ
 rw [KB (s:=6) _ hj]
 ·rw [List.getElem?_mapIdx,hk];rfl
 ·intro x hx
  rw [List.mem_mapIdx] at hx
  obtain ⟨i,hi,rfl⟩:=hx
  rfl
theorem Tl {w:World} {base n:Nat} {key:Int} {g c:Nat} {mp:List ModF} {k:Nat} {m:ModF} {v:Value} (h:w.ownsRow base 75 6 v n (xQ key g c mp)) (hk:mp[k]?=some m) (hkn:k < n) :
  ∃ b cap,v=.slice (some ⟨b,0,none⟩) n cap∧b < w.heap.size∧w.cell? ⟨b,k*6,none⟩=some (strB [80])∧w.cell? ⟨b,k*6+1,none⟩=some (.int .i64 (g:Int))∧w.cell? ⟨b,k*6+2,none⟩=some (.int .i64 (c:Int))∧w.cell? ⟨b,k*6+3,none⟩=some (.int .i64 (k:Int))∧w.cell? ⟨b,k*6+4,none⟩=some (strB (jO key m).1)∧w.cell? ⟨b,k*6+5,none⟩=some (strB (jO key m).2):=by
 rcases h.2 with ⟨rfl,h1⟩|⟨b,cap,cur,rfl,_⟩
 ·omega
 ·refine ⟨b,cap,rfl,(h.lt b rfl).2,?_,?_,?_,?_,?_,?_⟩
  ·rw [h.cellAt _ (by omega)];exact Qa (j:=0) hk (by omega)
  ·rw [h.cellAt _ (by omega)];exact Qa (j:=1) hk (by omega)
  ·rw [h.cellAt _ (by omega)];exact Qa (j:=2) hk (by omega)
  ·rw [h.cellAt _ (by omega)];exact Qa (j:=3) hk (by omega)
  ·rw [h.cellAt _ (by omega)];exact Qa (j:=4) hk (by omega)
  ·rw [h.cellAt _ (by omega)];exact Qa (j:=5) hk (by omega)
theorem Lz (pre:List UInt8) (r:List KeyB) (kind key:Int) (x:List CellB) (g c k st many:Nat) (m:ModF):QI pre r kind key x ⟨80,g,c,k,st,many⟩ m=match JC (ji r key) pre key 80 g c k m with
  | none=>none
  | some p=>match JI kind p with
   | none=>none
   | some l=>if l.length=many then some (x++l) else none:=by
 unfold QI
 have:JR pre r key ⟨80,g,c,k,st,many⟩ m=JC (ji r key) pre key 80 g c k m:=rfl
 rw [this]
 cases JC (ji r key) pre key 80 g c k m<;>rfl
theorem Gz (pre:List UInt8) (r:List KeyB) (kind key:Int) {P g c st n k:Nat} {mp:List ModF} {m:ModF} (hk:mp[k]?=some m):jI pre r kind key c (some []) (jt P g c st n (k+1)) (mp.take (k+1))=(jI pre r kind key c (some []) (jt P g c st n k) (mp.take k)).bind fun x=>QI pre r kind key x ⟨80,g,c,k,st+k*P,jp n P k⟩ m:=by
 have hlt:=(List.getElem?_eq_some_iff.1 hk).1
 have ht:mp.take (k+1)=mp.take k++[m]:=by rw [List.take_add_one,hk];rfl
 rw [Qi,ht,xZ _ _ _ _ _ _ _ _ _ _ (by simp [jt];omega)]
 cases jI pre r kind key c (some []) (jt P g c st n k) (mp.take k) with
 | none=>rw [xr];rfl
 | some x=>exact XP pre r kind key ⟨80,g,c,k,st+k*P,jp n P k⟩ m x
theorem Dn (pre:List UInt8) (r:List KeyB) (kind key:Int) {P g c st n k:Nat} {mp:List ModF} (h:jI pre r kind key c (some []) (jt P g c st n k) (mp.take k)=none):∀ j,k+j≤mp.length→jI pre r kind key c (some []) (jt P g c st n (k+j)) (mp.take (k+j))=none:=by
 intro j
 induction j with
 | zero=>intro _;exact h
 | succ j ih =>
  intro hl
  have hm:mp[k+j]?=some mp[k+j]:=List.getElem?_eq_getElem (by omega)
  rw [show k+(j+1)=k+j+1 by omega,Gz pre r kind key hm,ih (by omega)]
  rfl
theorem Dz {sec pre:List UInt8} {key:Int} {s:UInt8} {g c k:Nat} {m:ModF} {p:List UInt8} (hm:zv key m) (h:JC sec pre key s g c k m=some p):p.length≤65535:=by
 unfold JC at h
 rcases hm with ⟨rfl,h1,h2,h3⟩|⟨hk0,h1,h2,h3,h4⟩
 ·rw [if_pos rfl] at h;cases h;exact h3
 ·rw [if_neg hk0] at h
  obtain ⟨e,h5⟩:=XQ h
  have:=congrArg List.length e
  rw [za] at this
  omega
def Eg (O:Option (List CellB)) (w:World) (e:Ending) (w':World):Prop :=
 Below w.heap.size w w'∧((O=none∧e=gaveUp)∨∃ l v,O=some l∧e=.returned v∧(∀ c ∈ l,qG c)∧w'.ownsRow w.heap.size 34 3 v l.length (qz l))
theorem AC {kind:Int} {p:List UInt8} {l:List CellB} (h:JI kind p=some l):∀ c ∈ l,qG c:=by
 obtain ⟨h1,_,h3⟩:=Ul h
 intro c hc
 refine ⟨(h3 c hc).1,(h3 c hc).2,?_⟩
 simp only [qA,Bool.and_eq_true,List.all_eq_true] at h1
 have:=h1.2 c hc
 unfold xg at this
 split at this
 ·simp only [Bool.and_eq_true,List.isEmpty_iff] at this
  rw [this.2];decide
 ·split at this
  ·rw [List.isEmpty_iff] at this
   rw [this];decide
  ·simp only [Bool.and_eq_true,decide_eq_true_eq] at this
   exact this.2
theorem Nw (SC:Array Value) (pre:List UInt8) (r:List KeyB) (kind key:Int) (R G P g c:Nat) (mp:List ModF) (mm:ModF) (base:Nat) (pv:Value) (w:World)
  (h12:SC[12]?=some (.int .i64 (P:Int))) (hP1:1≤P) (hP:P≤60) (hR:jp R G g≤60) (hkd:kind=0∨kind=1) (hg:g≤65535) (hc:c≤65535) (hpre:pre.length≤20) (hsec:(ji r key).length≤1000)
  (hml:mp.length=jX (jp R G g) P) (hmok:∀ m ∈ mp,zv key m) (hrow:w.ownsRow base 75 6 pv mp.length (xQ key g c mp)) :
  Calls Tryz.prog 111 #[.agg SC,.int .i64 kind,chunkV (jp R G g) g c key pv mm,strB (ji r key),strB pre] w (Eg (jI pre r kind key c (some []) (qD R G P g c) mp) w):=by
 obtain ⟨i1,hi1,hy0,hy1,hy2⟩:=info_parts Tryz.infoCell
 have HPL:Hid (∀ (k:Nat) (m:ModF) (w':World),mp[k]?=some m→k≤60→Calls Tryz.prog 112 #[.agg #[strB [80],.int .i64 (g:Int),.int .i64 (c:Int),.int .i64 (k:Int),strB (jO key m).1,strB (jO key m).2],strB (ji r key),strB pre] w' (Me (JC (ji r key) pre key 80 g c k m) w')):=fun k m w' hk h60=>RM 80 g c k key m (ji r key) pre w' (hmok m (List.mem_of_getElem? hk)) hg hc (by omega) hpre hsec
 have HLN:Hid (∀ (k:Nat) (m:ModF) (p:List UInt8),mp[k]?=some m→JC (ji r key) pre key 80 g c k m=some p→p.length≤maxLen):=fun k m p hk h=>Nat.le_trans (Dz (hmok m (List.mem_of_getElem? hk)) h) (by decide)
 have HUN:Hid (∀ (p:List UInt8) (w':World),p.length≤maxLen→Calls Tryz.prog 128 #[.int .i64 kind,strB p] w' (Nd kind p w')):=fun p w' h=>Dp kind p w' hkd h
 have hCN:jX (jp R G g) P≤60:=Nat.le_trans (JZ hP1) hR
 have HCT:=hid (fun w':World=>Ut (jp R G g) P w' (by omega) hP1 (by omega))
 have HALL:Hid (qD R G P g c=jt P g c (g*G) (jp R G g) mp.length):=by show _=_;unfold qD;rw [hml]
 have HPP:Hid (∀ k,k < mp.length→0 < jp (jp R G g) P k∧k*P+jp (jp R G g) P k=min (k*P+P) (jp R G g)∧jp (jp R G g) P k≤60):=fun k hk=>by
  rw [hml] at hk
  have h1:=(Jr hP1).1 hk
  have h2:=(KR (n:=jp R G g) (i:=k) hP1).2 h1
  have h3:=Xv (jp R G g) P k h1
  exact ⟨h2,h3,by omega⟩
 have hkP:∀ k,k≤60→k*P≤3600:=fun k hk=>by
  have:=Nat.mul_le_mul hk hP
  omega
 have HKP:=hid hkP
 have HSZ:Hid (SC.size≤100000∨True):=.inr trivial
 generalize hse:ji r key=sec at *
 have HSE:=hid hse
 clear hse
 rw [← hml] at HCT hCN
 generalize jp R G g=rows at *
 have Hrow:=hid hrow
 have H12:=hid h12
 clear hrow hmok hsec hpre hg hc hkd hml h12 hkP
 obtain ⟨hb0,hl0,ho0,hq0⟩:=JQ w SC 82 #[.int .i64 (rows:Int),pv,strB [77],.int .i64 (g:Int),.int .i64 (c:Int),.int .i64 0,strB (jO key mm).1,strB (jO key mm).2] 157
 have x12:((w.alloc (.cells SC 82)).alloc (.cells #[.int .i64 (rows:Int),pv,strB [77],.int .i64 (g:Int),.int .i64 (c:Int),.int .i64 0,strB (jO key mm).1,strB (jO key mm).2] 157)).cell? ⟨w.heap.size,12,none⟩=some (.int .i64 (P:Int)):=by rw [jb ho0];exact H12.out
 obtain ⟨y0,y1,y2,y3,y4,y5,y6,y7⟩:=(QO hq0).1
 go_enter Tryz.func111,Tryz.ntmps111
 go_wp2_with fail
 clear x12 y0 y1 y2 y3 y4 y5 y6 y7
 generalize (w.alloc _).alloc _=W0 at *
 have HB0:=hid hb0
 have Hq0:=hid hq0
 have hz0:=hb0.size
 clear hb0 hq0 ho0
 refine (HCT.out _).mono ?_
 rintro e w1 ⟨sv,rfl,hsp,hb1⟩
 obtain ⟨sa,sc,rfl⟩:=jK hsp
 have HB1:=hid (HB0.out.trans (hb1.mono HB0.out.size))
 have Hq1:=hid (jd hb1 Hq0.out)
 have Hsp:=hid (jS hsp (b':=w.heap.size) hz0)
 have hl1:=hb1.size
 clear hb1 hsp
 go_wp2
 go_loopw [11,23] (fun v i wr=>∃ (k:Nat) (l:List CellB),k≤mp.length∧i=.int .i64 (k:Int)∧jI pre r kind key c (some []) (jt P g c (g*G) rows k) (mp.take k)=some l∧l.length≤k*60∧(∀ x ∈ l,qG x)∧wr.ownsRow w.heap.size 34 3 v l.length (qz l)∧wr.heap[w.heap.size+1]?=some (.cells #[.int .i64 (rows:Int),pv,strB [77],.int .i64 (g:Int),.int .i64 (c:Int),.int .i64 0,strB (jO key mm).1,strB (jO key mm).2] 157 (0,0))∧wr.ownsRow w.heap.size 169 2 (.slice sa mp.length sc) mp.length (Jy rows P mp.length)∧Below w.heap.size w wr) (fun _ i _=>mp.length - (intOf i).toNat)
 case atStart=>exact ⟨0,[],Nat.zero_le _,rfl,rfl,Nat.zero_le _,(by intro x hx;cases hx),World.ownsRow_nil _ _ _ _,Hq1.out,Hsp.out,HB1.out⟩
 case round =>
  obtain ⟨k,l,hkC,rfl,hcf,hll,hsm,hown,hq,hsp,hB⟩:=hrel
  have Hcf:=hid hcf
  have Hsm:=hid hsm
  have Hown:=hid hown
  have Hq:=hid hq
  have Hs:=hid hsp
  have HB:=hid hB
  have hwz:=hB.size
  obtain ⟨va,vc,rfl⟩:=jK hown
  clear hcf hsm hown hq hsp hB
  by_cases hlt:k < mp.length
  ·have hiM:(k:Int) < (mp.length:Int):=by omega
   obtain ⟨m,hm⟩:∃ m,mp[k]?=some m:=⟨mp[k],List.getElem?_eq_getElem hlt⟩
   obtain ⟨sg,rfl,hsg,s1,s2⟩:=Vg Hs.out hlt
   obtain ⟨pb,pc,rfl,hpb,p0,p1,p2,p3,p4,p5⟩:=Tl (jN Hrow.out HB.out) hm hlt
   obtain ⟨hpp,hpe,hp60⟩:=HPP.out k hlt
   have hkp:=HKP.out k (by omega)
   have HPLk:=hid (fun w'=>HPL.out k m w' hm (by omega))
   have HLNk:=hid (fun p=>HLN.out k m p hm)
   have HSTEP:Hid (jI pre r kind key c (some []) (jt P g c (g*G) rows (k+1)) (mp.take (k+1))=match JC sec pre key 80 g c k m with
    | none=>none
    | some p=>match JI kind p with
     | none=>none
     | some l2=>if l2.length=jp rows P k then some (l++l2) else none):=by
    show _=_
    rw [Gz pre r kind key hm,Hcf.out]
    show QI _ _ _ _ _ _ _=_
    rw [Lz,HSE.out]
   have HNONE:Hid (jI pre r kind key c (some []) (jt P g c (g*G) rows (k+1)) (mp.take (k+1))=none→jI pre r kind key c (some []) (qD R G P g c) mp=none):=fun h=>by
    have:=Dn pre r kind key h (mp.length - (k+1)) (by omega)
    rw [show k+1+(mp.length - (k+1))=mp.length by omega,List.take_length] at this
    rw [HALL.out];exact this
   rw [← hpe] at s2
   have Hm:=hid hm
   clear hpe HPL HLN hm
   generalize hkp0:k*P=kP at *
   generalize hpn0:jp rows P k=pn at *
   generalize hps0:JC sec pre key 80 g c k m=PS at *
   clear hkp0 hpn0 hps0
   generalize (jO key m).1=n1 at *
   generalize (jO key m).2=n2 at *
   obtain ⟨hbx,hsx,_,hhx⟩:=jJ wr #[.int .i64 (kP:Int),.int .i64 ((kP:Int)+(pn:Int))] 169
   have y1:=(QO (jd hbx Hq.out)).1.2.1
   have q0:=je (.cells #[.int .i64 (kP:Int),.int .i64 ((kP:Int)+(pn:Int))] 169) p0
   have q1:=je (.cells #[.int .i64 (kP:Int),.int .i64 ((kP:Int)+(pn:Int))] 169) p1
   have q2:=je (.cells #[.int .i64 (kP:Int),.int .i64 ((kP:Int)+(pn:Int))] 169) p2
   have q3:=je (.cells #[.int .i64 (kP:Int),.int .i64 ((kP:Int)+(pn:Int))] 169) p3
   have q4:=je (.cells #[.int .i64 (kP:Int),.int .i64 ((kP:Int)+(pn:Int))] 169) p4
   have q5:=je (.cells #[.int .i64 (kP:Int),.int .i64 ((kP:Int)+(pn:Int))] 169) p5
   go_wp2_with fail
   clear y1 q0 q1 q2 q3 q4 q5 p0 p1 p2 p3 p4 p5 s1 s2
   have HBx:=hid hbx
   have Hhx:=hid hhx
   have Hqx:=hid (jd hbx Hq.out)
   have Hox:=hid (ju Hown.out hbx)
   have Hsx:=hid (ju Hs.out hbx)
   clear hbx hhx
   generalize wr.alloc _=wx at *
   refine (HPLk.out wx).mono ?_
   rintro e w2 ⟨hb2,⟨hn2,rfl⟩|⟨p,hsome,rfl⟩⟩
   ·have HE:Hid (jI pre r kind key c (some []) (qD R G P g c) mp=none):=HNONE.out (by rw [HSTEP.out,hn2])
    have HBE:=hid (HB.out.trans ((HBx.out.trans (hb2.mono HBx.out.size)).mono hwz))
    clear hn2 hb2
    go_wp2
    exact ⟨rfl,HBE.out,.inl ⟨HE.out,rfl⟩⟩
   have HB2:=hid (HBx.out.trans (hb2.mono HBx.out.size))
   have Hh2:=hid (jd hb2 Hhx.out)
   have Hq2:=hid (jd hb2 Hqx.out)
   have Ho2:=hid (ju Hox.out hb2)
   have Hs2:=hid (ju Hsx.out hb2)
   have HPS:=hid hsome
   clear hb2 hsome
   go_wp2_with fail
   refine (HUN.out p w2 (HLNk.out p HPS.out)).mono ?_
   rintro e w3 ⟨hb3,⟨rfl,hn3⟩|⟨l2,a2,cap2,rfl,hu,hli⟩⟩
   ·have HE:Hid (jI pre r kind key c (some []) (qD R G P g c) mp=none):=HNONE.out (by rw [HSTEP.out,HPS.out];simp only [hn3])
    have HBE:=hid (HB.out.trans ((HB2.out.trans (hb3.mono HB2.out.size)).mono hwz))
    clear hn3 hb3
    go_wp2
    exact ⟨rfl,HBE.out,.inl ⟨HE.out,rfl⟩⟩
   have HB3:=hid (HB2.out.trans (hb3.mono HB2.out.size))
   have Hh3:=hid (jd hb3 Hh2.out)
   have Hq3:=hid (jd hb3 Hq2.out)
   have Ho3:=hid (ju Ho2.out hb3)
   have Hs3:=hid (ju Hs2.out hb3)
   have HU:=hid hu
   have HLI:=hid hli
   clear hb3 hu hli
   obtain ⟨z1,z2⟩:=LC Hh3.out
   have hl260:l2.length≤60:=by
    have:=(Ul HU.out).1
    simp only [qA,Bool.and_eq_true,decide_eq_true_eq] at this
    exact this.1.2
   go_wp2_with fail
   clear z1 z2
   by_cases hlen:l2.length=pn
   ·have hbq:((l2.length:Int) == (kP:Int)+(pn:Int) - (kP:Int))=true:=by rw [beq_iff_eq];omega
    rw [hbq]
    clear hbq
    refine (qe w3).mono ?_
    rintro e w4 ⟨rfl,rfl⟩
    have HSM:Hid (∀ x ∈ l++l2,qG x):=fun x hx=>by
     rcases List.mem_append.1 hx with h|h
     ·exact Hsm.out x h
     ·exact AC HU.out x h
    have HNEW:Hid (jI pre r kind key c (some []) (jt P g c (g*G) rows (k+1)) (mp.take (k+1))=some (l++l2)):=by
     show _=_
     rw [HSTEP.out,HPS.out]
     simp only [HU.out,if_pos hlen]
    have hl20:0 < l2.length:=by omega
    clear hlen
    obtain ⟨b2,off2,rfl,hb2lt,hcell⟩:=HLI.out.at_ (List.ne_nil_of_length_pos hl20)
    have HCL:=hid (Lies.cells hcell)
    clear hcell
    have hz4:=HB3.out.size
    go_wp2_with (refine wpList_append_lies _ rfl _ _ _ rfl w.heap.size 34 i1 _ 3 32 Tryz.underlying29 hi1 hy0 hy1 hy2 rfl (by omega) _ l.length (qz l) rfl Ho3.out ⟨b2,off2,none⟩ l2.length cap2 (qz l2) rfl (Xb l2) HCL.out (Re l2) hl20 (by unfold maxLen;omega) (by omega) (by omega) _ rfl ?_;intro gg gc w5 hown5 hgr5 hat5 hlt5)
    have HO5:=hid hown5
    have HQ5:=hid (jz hgr5 Ho3.out Hq3.out (by decide))
    have HS5:=hid (Hs3.out.kept hgr5 (zn Hs3.out Ho3.out (by decide)))
    have HB5:=hid ((HB.out.trans (HB3.out.mono hwz)).grown hgr5 (by omega) (fun k hk=>(Ho3.out.lt k hk).1))
    clear hown5 hgr5 hat5 hlt5
    go_wp2
    go_roundw
    case rel =>
     refine ⟨k+1,l++l2,by omega,by go_num,HNEW.out,by rw [List.length_append];omega,HSM.out,?_,HQ5.out,HS5.out,HB5.out⟩
     rw [ZK,List.length_append]
     exact HO5.out
    case measure=>simp [intOf];omega
   ·have hbq:((l2.length:Int) == (kP:Int)+(pn:Int) - (kP:Int))=false:=by rw [beq_eq_false_iff_ne];omega
    rw [hbq]
    clear hbq
    refine (qS w3).mono ?_
    rintro e w4 ⟨rfl,rfl⟩
    have HE:Hid (jI pre r kind key c (some []) (qD R G P g c) mp=none):=HNONE.out (by rw [HSTEP.out,HPS.out];simp only [HU.out,if_neg hlen])
    have HBE:=hid (HB.out.trans (HB3.out.mono hwz))
    clear hlen
    go_wp2
    exact ⟨rfl,HBE.out,.inl ⟨HE.out,rfl⟩⟩
  ·have hke:k=mp.length:=by omega
   subst hke
   have HE:Hid (jI pre r kind key c (some []) (qD R G P g c) mp=some l):=by
    have:=Hcf.out
    rw [List.take_length] at this
    show _=_
    rw [HALL.out];exact this
   clear hlt
   go_wp2
   go_ret
   exact ⟨HB.out,.inr ⟨l,_,HE.out,rfl,Hsm.out,Hown.out⟩⟩
end
section
structure SheetGo (S:SheetF) (G P base:Nat) (w:World) (SC:Array Value) (cv:Value) (Kb:Nat) (V:Nat→Value) (Qp:Nat→Nat→List ModF) (Qm:Nat→Nat→ModF) (Pv:Nat→Nat→Value):Prop where
 inf:(Tryz.prog.info? 82).map (·.size)=some SC.size
 one:SC.all (·.oneCell')=true
 c12:SC[12]?=some (.int .i64 (P:Int))
 c15:SC[15]?=some cv
 c17:SC[17]?=some (.slice (some ⟨Kb,0,none⟩) S.cols.length S.cols.length)
 cols:w.ownsRow base 31 4 cv S.cols.length (XU S.cols)
 small:∀ c ∈ S.cols,SmallC c
 kb:w.heap[Kb]?=some (.cells ((List.range S.cols.length).map V).toArray 154 (0,0))
 chunks:∀ i,i < S.cols.length→ColIn S.cols S.rows G P base w i (jX S.rows G) (V i) Qp Qm Pv
 mods:S.mods=xk (fun g c=>Qp g c++[Qm g c]) S.cols.length (jX S.rows G)
 spots:qt S=jH S.rows S.cols.length G P (jX S.rows G)
 rows:S.rows≤60
 g1:1≤G
 g6:G≤60
 p1:1≤P
 p6:P≤60
 n6:S.cols.length≤6
theorem SheetGo.later {S:SheetF} {G P base:Nat} {w w':World} {SC:Array Value} {cv:Value} {Kb:Nat} {V:Nat→Value} {Qp:Nat→Nat→List ModF} {Qm:Nat→Nat→ModF} {Pv:Nat→Nat→Value} (h:SheetGo S G P base w SC cv Kb V Qp Qm Pv) (hb:Below w.heap.size w w'):SheetGo S G P base w' SC cv Kb V Qp Qm Pv :=
 ⟨h.inf,h.one,h.c12,h.c15,h.c17,jN h.cols hb,h.small,jd hb h.kb,fun i hi=>(h.chunks i hi).keep (fun n xs hu=>jN hu hb) (fun u n xs hu=>jN hu hb),h.mods,h.spots,h.rows,h.g1,h.g6,h.p1,h.p6,h.n6⟩
theorem Cn {S:SheetF} {f:FormF} {base foot:Nat} {parts footer:List UInt8} {w:World} {v cv pv:Value} {Kb:Nat} {V:Nat→Value} {Qp:Nat→Nat→List ModF} {Qm:Nat→Nat→ModF} {Pv:Nat→Nat→Value} (h:SheetIn S f base w v cv pv Kb V Qp Qm Pv) (hok:SheetOk foot parts footer S) :
  SheetGo S S.plan.group.toNat S.plan.page.toNat base w (qO S f cv pv Kb) cv Kb V Qp Qm Pv:=by
 obtain ⟨_,h18,hone⟩:=h.one
 have hp:=hok.plan
 simp only [qP,Bool.and_eq_true,decide_eq_true_eq] at hp
 have hh:=hok.heads
 simp only [qc,Bool.and_eq_true,decide_eq_true_eq] at hh
 refine ⟨by rw [h18];kernel_rfl,hone,?_,rfl,rfl,h.cols,h.small,h.kb,h.chunks,h.mods,rfl,hok.rows,by omega,by omega,by omega,by omega,by omega⟩
 show some (Value.int .i64 S.plan.page)=_
 rw [Int.toNat_of_nonneg (by omega)]
theorem zF {R G:Nat} {key:Int} {c:Nat} {Qm:Nat→Nat→ModF} {Pv:Nat→Nat→Value} {n k:Nat} (hk:k < n) {j:Nat} (hj:j < 8):(xW R G key c Qm Pv n)[k*8+j]?=(Ka R G key c Qm Pv k)[j]?:=by
 unfold xW
 rw [List.flatMap_def,KB (s:=8) _ hj]
 ·rw [List.getElem?_map,List.getElem?_range hk];rfl
 ·intro x hx
  simp only [List.mem_map] at hx
  obtain ⟨i,_,rfl⟩:=hx
  rfl
theorem Yk {w:World} {base n:Nat} {R G:Nat} {key:Int} {c:Nat} {Qm:Nat→Nat→ModF} {Pv:Nat→Nat→Value} {k:Nat} {v:Value} (h:w.ownsRow base 157 8 v n (xW R G key c Qm Pv n)) (hk:k < n) :
  ∃ b cap,v=.slice (some ⟨b,0,none⟩) n cap∧b < w.heap.size∧w.cell? ⟨b,k*8,none⟩=some (.int .i64 ((jp R G k:Nat):Int))∧w.cell? ⟨b,k*8+1,none⟩=some (Pv k c)∧w.cell? ⟨b,k*8+2,none⟩=some (strB [77])∧w.cell? ⟨b,k*8+3,none⟩=some (.int .i64 (k:Int))∧w.cell? ⟨b,k*8+4,none⟩=some (.int .i64 (c:Int))∧w.cell? ⟨b,k*8+5,none⟩=some (.int .i64 0)∧w.cell? ⟨b,k*8+6,none⟩=some (strB (jO key (Qm k c)).1)∧w.cell? ⟨b,k*8+7,none⟩=some (strB (jO key (Qm k c)).2):=by
 rcases h.2 with ⟨rfl,h1⟩|⟨b,cap,cur,rfl,_⟩
 ·omega
 ·refine ⟨b,cap,rfl,(h.lt b rfl).2,?_,?_,?_,?_,?_,?_,?_,?_⟩
  ·rw [h.cellAt _ (by omega)];exact zF (j:=0) hk (by omega)
  ·rw [h.cellAt _ (by omega)];exact zF (j:=1) hk (by omega)
  ·rw [h.cellAt _ (by omega)];exact zF (j:=2) hk (by omega)
  ·rw [h.cellAt _ (by omega)];exact zF (j:=3) hk (by omega)
  ·rw [h.cellAt _ (by omega)];exact zF (j:=4) hk (by omega)
  ·rw [h.cellAt _ (by omega)];exact zF (j:=5) hk (by omega)
  ·rw [h.cellAt _ (by omega)];exact zF (j:=6) hk (by omega)
  ·rw [h.cellAt _ (by omega)];exact zF (j:=7) hk (by omega)
theorem Vo {t:List ColB} {c:Nat} (hc:c < t.length) {j:Nat} (hj:j < 4):(XU t)[c*4+j]?=(Sb (jg t c))[j]?:=by
 unfold XU
 rw [List.flatMap_def,KB (s:=4) _ hj]
 ·rw [List.getElem?_map,List.getElem?_eq_getElem hc]
  simp only [Option.map_some,Option.bind_some]
  rw [xy hc]
 ·intro x hx
  simp only [List.mem_map] at hx
  obtain ⟨i,_,rfl⟩:=hx
  rfl
theorem Nn {w:World} {base:Nat} {t:List ColB} {c:Nat} {v:Value} (h:w.ownsRow base 31 4 v t.length (XU t)) (hc:c < t.length) :
  ∃ b cap,v=.slice (some ⟨b,0,none⟩) t.length cap∧b < w.heap.size∧w.cell? ⟨b,c*4,none⟩=some (strB (jg t c).name)∧w.cell? ⟨b,c*4+1,none⟩=some (.int .i64 (jg t c).kind)∧w.cell? ⟨b,c*4+2,none⟩=some (.int .i64 (jg t c).key)∧w.cell? ⟨b,c*4+3,none⟩=some (.slice none 0 0):=by
 rcases h.2 with ⟨rfl,h1⟩|⟨b,cap,cur,rfl,_⟩
 ·omega
 ·refine ⟨b,cap,rfl,(h.lt b rfl).2,?_,?_,?_,?_⟩
  ·rw [h.cellAt _ (by omega)];exact Vo (j:=0) hc (by omega)
  ·rw [h.cellAt _ (by omega)];exact Vo (j:=1) hc (by omega)
  ·rw [h.cellAt _ (by omega)];exact Vo (j:=2) hc (by omega)
  ·rw [h.cellAt _ (by omega)];exact Vo (j:=3) hc (by omega)
theorem SD {R G P g c:Nat} {t:List ColB} {mp:List ModF} {mm:ModF} (h:ModsOk t (jh R G P g c) (mp++[mm])):(∀ m ∈ mp,zv (jg t c).key m)∧zv (jg t c).key mm:=by
 have key:∀ {L:List SpotB} {M:List ModF},ModsOk t L M→(∀ s ∈ L,s.c=c)→∀ m ∈ M,zv (jg t c).key m:=by
  intro L M h
  induction h with
  | nil=>intro _ m hm;cases hm
  | cons h1 _ ih =>
   intro hs m hm
   rcases List.mem_cons.1 hm with rfl|hm
   ·have:=hs _ (List.mem_cons_self ..)
    rw [← this];exact h1
   ·exact ih (fun s h=>hs s (List.mem_cons_of_mem _ h)) m hm
 have:=key h Qg
 exact ⟨fun m hm=>this m (by simp [hm]),this mm (by simp)⟩
theorem TD {t:List ColB} {Qp:Nat→Nat→List ModF} {Qm:Nat→Nat→ModF} {R C G P:Nat} (pre:List UInt8) (r:List KeyB) (kind key:Int) {c k:Nat} (hc:c < C) (hP:1≤P) (hG:1≤G) (hk:k < jX R G) (h:∀ g,g < jX R G→∀ i,i < C→ModsOk t (jh R G P g i) (Qp g i++[Qm g i])) (hl:∀ g,g < jX R G→∀ i,i < C→(Qp g i).length=jX (jp R G g) P) {l:List CellB}
  (hcf:jI pre r kind key c (some []) (jH R C G P k) (xk (fun g c=>Qp g c++[Qm g c]) C k)=some l) :
  jI pre r kind key c (some []) (jH R C G P (k+1)) (xk (fun g c=>Qp g c++[Qm g c]) C (k+1))=(jI pre r kind key c (some []) (qD R G P k c) (Qp k c)).bind fun part=>if JC (ji r key) pre key 77 k c 0 (Qm k c)=some (Qf kind part) then some (l++part) else none:=by
 have hkG:=(Jr hG).1 hk
 have hlen:=RU (t:=t) pre r kind key hc hP (fun g hg i hi=>h g (by omega) i hi) (by omega) hcf
 rw [VJ (t:=t) pre r kind key hc _ (fun g hg i hi=>h g (by omega) i hi),hcf,Ve pre r kind key l (by omega) (Qp k c) (Qm k c) (by rw [hl k hk c hc];simp [qD,jt])]
 rfl
theorem CV {t:List ColB} {Q:Nat→Nat→List ModF} {R C G P n:Nat} (pre:List UInt8) (r:List KeyB) (kind key:Int) {c k:Nat} (hc:c < C) (h:∀ g,g < n→∀ i,i < C→ModsOk t (jh R G P g i) (Q g i))
  (hcf:jI pre r kind key c (some []) (jH R C G P k) (xk Q C k)=none):∀ j,k+j≤n→jI pre r kind key c (some []) (jH R C G P (k+j)) (xk Q C (k+j))=none:=by
 intro j
 induction j with
 | zero=>intro _;exact hcf
 | succ j ih =>
  intro hj
  rw [show k+(j+1)=k+j+1 by omega,VJ (t:=t) pre r kind key hc _ (fun g hg i hi=>h g (by omega) i hi),ih (by omega),xr]
theorem NQ (S:SheetF) (G P base:Nat) (SC:Array Value) (cv:Value) (Kb:Nat) (V:Nat→Value) (Qp:Nat→Nat→List ModF) (Qm:Nat→Nat→ModF) (Pv:Nat→Nat→Value) (pre:List UInt8) (r:List KeyB) (c:Nat) (w:World)
  (hS:SheetGo S G P base w SC cv Kb V Qp Qm Pv) (hc:c < S.cols.length) (hpre:pre.length≤20) (hsec:(ji r (jg S.cols c).key).length≤1000) :
  Calls Tryz.prog 79 #[.agg SC,.int .i64 (c:Int),strB (ji r (jg S.cols c).key),strB pre] w (Eg (jI pre r (jg S.cols c).kind (jg S.cols c).key c (some []) (qt S) S.mods) w):=by
 obtain ⟨i1,hi1,hy0,hy1,hy2⟩:=info_parts Tryz.infoCell
 have hinf:=hS.inf
 have hn6:=hS.n6
 have hkd:(jg S.cols c).kind=0∨(jg S.cols c).kind=1:=(hS.small _ (by rw [xy hc];exact List.getElem_mem _)).kind
 have hOK:∀ g,g < jX S.rows G→∀ i,i < S.cols.length→ModsOk S.cols (jh S.rows G P g i) (Qp g i++[Qm g i]):=fun g hg i hi=>((hS.chunks i hi).ok g hg).1
 have hLN:∀ g,g < jX S.rows G→∀ i,i < S.cols.length→(Qp g i).length=jX (jp S.rows G g) P:=fun g hg i hi=>((hS.chunks i hi).ok g hg).2
 have HRW:Hid (∀ k w',k < jX S.rows G→Below w.heap.size w w'→w'.ownsRow base 75 6 (Pv k c) (Qp k c).length (xQ (jg S.cols c).key k c (Qp k c))):=fun k w' hk hb=>jN ((hS.chunks c hc).pages k hk) hb
 have HPVS:Hid (∀ k,k < jX S.rows G→∃ a m cp,Pv k c=.slice a m cp):=fun k hk=>by
  obtain ⟨a,cp,h⟩:=jK ((hS.chunks c hc).pages k hk)
  exact ⟨a,_,cp,h⟩
 have HCN:Hid (jX S.rows G≤60):=Nat.le_trans (JZ hS.g1) hS.rows
 have hcn60:=HCN.out
 have hmk:∀ k,k < jX S.rows G→(∀ m ∈ Qp k c,zv (jg S.cols c).key m)∧zv (jg S.cols c).key (Qm k c):=fun k hk=>SD (hOK k hk c hc)
 have HCH:Hid (∀ k w',k < jX S.rows G→Below w.heap.size w w'→Calls Tryz.prog 111 #[.agg SC,.int .i64 (jg S.cols c).kind,.agg #[.int .i64 ((jp S.rows G k:Nat):Int),Pv k c,strB [77],.int .i64 (k:Int),.int .i64 (c:Int),.int .i64 0,strB (jO (jg S.cols c).key (Qm k c)).1,strB (jO (jg S.cols c).key (Qm k c)).2],strB (ji r (jg S.cols c).key),strB pre] w' (Eg (jI pre r (jg S.cols c).kind (jg S.cols c).key c (some []) (qD S.rows G P k c) (Qp k c)) w')):=fun k w' hk hb =>
  Nw SC pre r _ _ S.rows G P k c (Qp k c) (Qm k c) base (Pv k c) w' hS.c12 hS.p1 hS.p6 (Nat.le_trans (Ju S.rows G k).2 hS.rows) hkd (by omega) (by omega) hpre hsec (hLN k hk c hc) (hmk k hk).1 (HRW.out k w' hk hb)
 have HPL:Hid (∀ k w',k < jX S.rows G→Calls Tryz.prog 112 #[.agg #[strB [77],.int .i64 (k:Int),.int .i64 (c:Int),.int .i64 ((0:Nat):Int),strB (jO (jg S.cols c).key (Qm k c)).1,strB (jO (jg S.cols c).key (Qm k c)).2],strB (ji r (jg S.cols c).key),strB pre] w' (Me (JC (ji r (jg S.cols c).key) pre (jg S.cols c).key 77 k c 0 (Qm k c)) w')):=fun k w' hk=>RM 77 k c 0 _ (Qm k c) _ pre w' (hmk k hk).2 (by omega) (by omega) (by omega) hpre hsec
 have HST:=hid (fun k l hk=>TD (t:=S.cols) (Qp:=Qp) (Qm:=Qm) (R:=S.rows) (C:=S.cols.length) (G:=G) (P:=P) pre r (jg S.cols c).kind (jg S.cols c).key (k:=k) (l:=l) hc hS.p1 hS.g1 hk hOK hLN)
 have HNO:=hid (fun k=>CV (t:=S.cols) (Q:=fun g c=>Qp g c++[Qm g c]) (R:=S.rows) (C:=S.cols.length) (G:=G) (P:=P) (n:=jX S.rows G) pre r (jg S.cols c).kind (jg S.cols c).key (k:=k) hc hOK)
 have HPLN:=hid (fun k part (hk:k < jX S.rows G)=>KJ pre r (jg S.cols c).kind (jg S.cols c).key (R:=S.rows) (G:=G) (P:=P) (g:=k) (c:=c) (mp:=Qp k c) (part:=part) hS.p1 (by rw [hLN k hk c hc];simp [qD,jt]))
 have HPP:Hid (∀ k,k < jX S.rows G→0 < jp S.rows G k∧jp S.rows G k≤60):=fun k hk=>⟨(KR hS.g1).2 ((Jr hS.g1).1 hk),Nat.le_trans (Ju S.rows G k).2 hS.rows⟩
 have HALL:Hid (qt S=jH S.rows S.cols.length G P (jX S.rows G)∧S.mods=xk (fun g c=>Qp g c++[Qm g c]) S.cols.length (jX S.rows G)):=⟨hS.spots,hS.mods⟩
 obtain ⟨cb,cc,rfl,hcb,k0,k1,k2,k3⟩:=Nn hS.cols hc
 have hrow:=(hS.chunks c hc).row
 obtain ⟨va,vc,hV⟩:=jK hrow
 have hkbc:w.cell? ⟨Kb,c,none⟩=some (.slice va (jX S.rows G) vc):=by
  rw [jb hS.kb,← hV]
  simp [hc]
 have HC15:=hid hS.c15
 have HC17:=hid hS.c17
 rw [hV] at hrow
 have Hrow:=hid hrow
 have hci:(c:Int) < (S.cols.length:Int):=by omega
 clear hrow hV hmk hOK hLN hkd hS hpre hsec HRW
 generalize jX S.rows G=CN at *
 generalize hsec0:ji r (jg S.cols c).key=sec at *
 generalize hkey0:(jg S.cols c).key=key at *
 generalize hkin0:(jg S.cols c).kind=kind at *
 clear hkey0 hkin0 hsec0
 generalize S.cols.length=n at *
 obtain ⟨hb0,hl0,_,ho0⟩:=jJ w SC 82
 have x15:(w.alloc (.cells SC 82)).cell? ⟨w.heap.size,15,none⟩=some (.slice (some ⟨cb,0,none⟩) n cc):=by rw [jb ho0];exact HC15.out
 have x17:(w.alloc (.cells SC 82)).cell? ⟨w.heap.size,17,none⟩=some (.slice (some ⟨Kb,0,none⟩) n n):=by rw [jb ho0];exact HC17.out
 have z1:=je (.cells SC 82) k1
 have z2:=je (.cells SC 82) hkbc
 go_enter Tryz.func79,Tryz.ntmps79
 have s15:=HC15.out
 have s17:=HC17.out
 go_wp2
 clear s15 s17 x15 x17 z1 z2 k0 k1 k2 k3 hkbc HC15 HC17
 generalize w.alloc _=W0 at *
 go_loopw [10,27] (fun v i wr=>∃ (k:Nat) (l:List CellB),k≤CN∧i=.int .i64 (k:Int)∧jI pre r kind key c (some []) (jH S.rows n G P k) (xk (fun g c=>Qp g c++[Qm g c]) n k)=some l∧l.length≤k*60∧(∀ x ∈ l,qG x)∧wr.ownsRow w.heap.size 34 3 v l.length (qz l)∧wr.heap[w.heap.size]?=some (.cells SC 82 (0,0))∧Below w.heap.size w wr) (fun _ i _=>CN - (intOf i).toNat)
 case atStart=>exact ⟨0,[],Nat.zero_le _,rfl,rfl,Nat.zero_le _,(by intro x hx;cases hx),World.ownsRow_nil _ _ _ _,ho0,hb0⟩
 case round =>
  obtain ⟨k,l,hkC,rfl,hcf,hll,hsm,hown,hq,hB⟩:=hrel
  have Hcf:=hid hcf
  have Hsm:=hid hsm
  have Hown:=hid hown
  have Hq:=hid hq
  have HB:=hid hB
  have hwz:=hB.size
  obtain ⟨wa,wc,rfl⟩:=jK hown
  clear hcf hsm hown hq hB
  by_cases hlt:k < CN
  ·have hiM:(k:Int) < (CN:Int):=by omega
   obtain ⟨vb,vc2,hva,hvb,p0,p1,p2,p3,p4,p5,p6,p7⟩:=Yk (jN Hrow.out HB.out) hlt
   injection hva with hva1 hva2 hva3
   subst hva1 hva3
   clear hva2 hb0 hl0 ho0
   obtain ⟨hpp,hp60⟩:=HPP.out k hlt
   have HCHk:=hid (fun w'=>HCH.out k w' hlt)
   have HPLk:=hid (fun w'=>HPL.out k w' hlt)
   have HSTEP:=hid (HST.out k l hlt Hcf.out)
   have HPLNk:=hid (fun part=>HPLN.out k part hlt)
   have HNONE:Hid (jI pre r kind key c (some []) (jH S.rows n G P (k+1)) (xk (fun g c=>Qp g c++[Qm g c]) n (k+1))=none→jI pre r kind key c (some []) (qt S) S.mods=none):=fun h=>by
    have:=HNO.out (k+1) h (CN - (k+1)) (by omega)
    rw [show k+1+(CN - (k+1))=CN by omega] at this
    rw [HALL.out.1,HALL.out.2];exact this
   clear HST HNO HCH HPL HPLN HPP
   generalize jp S.rows G k=pn at *
   generalize hO:jI pre r kind key c (some []) (qD S.rows G P k c) (Qp k c)=O at *
   clear hO
   generalize hO2:JC sec pre key 77 k c 0 (Qm k c)=O2 at *
   clear hO2
   generalize (jO key (Qm k c)).1=n1 at *
   generalize (jO key (Qm k c)).2=n2 at *
   obtain ⟨pa,pm,pcp,hpv⟩:=HPVS.out k hlt
   rw [hpv] at p1 HCHk
   clear hpv HPVS
   obtain ⟨hbx,hsx,_,hhx⟩:=jJ wr #[.int .i64 (pn:Int),.slice pa pm pcp,strB [77],.int .i64 (k:Int),.int .i64 (c:Int),.int .i64 0,strB n1,strB n2] 157
   have hqx:=jd hbx Hq.out
   obtain ⟨y0,y1,y2,y3,y4,y5,y6,y7⟩:=(QO hhx).1
   go_upto_region 6 with fail
   clear y0 y1 y2 y3 y4 y5 y6 y7 p0 p1 p2 p3 p4 p5 p6 p7
   have HBx:=hid hbx
   have Hhx:=hid hhx
   have Hqx:=hid hqx
   have Hox:=hid (ju Hown.out hbx)
   clear hbx hhx hqx hsx
   generalize hwx:wr.alloc _=wx at *
   clear hwx
   generalize hxs:wr.heap.size=xs at Hhx ⊢
   clear hxs
   have HINF:=hid hinf
   clear hinf
   go_wp2_with (first|(refine wpList_load_row rfl 82 (.tmp 4) rfl w.heap.size rfl 82 SC (0,0) _ Hqx.out Tryz.underlying82 rfl HINF.out ?_)|(refine wpList_load_row rfl 157 (.tmp 12) rfl xs rfl 157 _ (0,0) _ Hhx.out Tryz.underlying157 rfl (by kernel_rfl) ?_))
   refine (HCHk.out wx (HB.out.trans (HBx.out.mono hwz))).mono ?_
   rintro e w2 ⟨hb2,⟨hn2,rfl⟩|⟨part,v2,hsome,rfl,hsm2,hown2⟩⟩
   ·have HE:Hid (jI pre r kind key c (some []) (qt S) S.mods=none):=HNONE.out (by rw [HSTEP.out,hn2];rfl)
    have HBE:=hid (HB.out.trans ((HBx.out.trans (hb2.mono HBx.out.size)).mono hwz))
    clear hn2 hb2
    go_wp2
    exact ⟨rfl,HBE.out,.inl ⟨HE.out,rfl⟩⟩
   have hpl:=HPLNk.out part hsome
   have HSOME:=hid hsome
   have HSM2:=hid hsm2
   obtain ⟨a2,cap2,rfl,_,hli2⟩:=Rg hown2 (fun x hx=>⟨(hsm2 x hx).1,(hsm2 x hx).2.1,Nat.le_trans (hsm2 x hx).2.2 (by decide)⟩)
   have HB2:=hid (HBx.out.trans (hb2.mono HBx.out.size))
   have Hh2:=hid (jd hb2 Hhx.out)
   have Hq2:=hid (jd hb2 Hqx.out)
   have Ho2:=hid (ju Hox.out hb2)
   have HL2:=hid hli2
   have hpl60:part.length≤60:=by omega
   have hpl0:0 < part.length:=by omega
   clear hb2 hsome hsm2 hown2 hli2 hpl
   obtain ⟨y0,y1,y2,y3,y4,y5,y6,y7⟩:=(QO Hh2.out).1
   go_wp2_with fail
   clear y0 y1 y2 y3 y4 y5 y6 y7
   refine (HPLk.out w2).mono ?_
   rintro e w3 ⟨hb3,⟨hn3,rfl⟩|⟨p,hsome3,rfl⟩⟩
   ·have HE:Hid (jI pre r kind key c (some []) (qt S) S.mods=none):=HNONE.out (by rw [HSTEP.out,HSOME.out,Option.bind_some,hn3,if_neg (by simp)])
    have HBE:=hid (HB.out.trans ((HB2.out.trans (hb3.mono HB2.out.size)).mono hwz))
    clear hn3 hb3
    go_wp2
    exact ⟨rfl,HBE.out,.inl ⟨HE.out,rfl⟩⟩
   have HB3:=hid (HB2.out.trans (hb3.mono HB2.out.size))
   have Hq3:=hid (jd hb3 Hq2.out)
   have Ho3:=hid (ju Ho2.out hb3)
   have HL3:=hid (HL2.out.later hb3)
   have HP3:=hid hsome3
   clear hb3 hsome3
   go_wp2_with fail
   refine (YV kind a2 cap2 part w3 hpl60 HSM2.out HL3.out).mono ?_
   rintro e w4 ⟨rfl,hb4⟩
   have HB4:=hid (HB3.out.trans (hb4.mono HB3.out.size))
   have Hq4:=hid (jd hb4 Hq3.out)
   have Ho4:=hid (ju Ho3.out hb4)
   have HL4:=hid (HL3.out.later hb4)
   clear hb4
   go_wp2_with fail
   by_cases hmt:p=Qf kind part
   ·have hbq:(p == Qf kind part)=true:=by rw [beq_iff_eq];exact hmt
    rw [hbq]
    clear hbq
    refine (qe w4).mono ?_
    rintro e w5 ⟨rfl,rfl⟩
    have HSM:Hid (∀ x ∈ l++part,qG x):=fun x hx=>by
     rcases List.mem_append.1 hx with h|h
     ·exact Hsm.out x h
     ·exact HSM2.out x h
    have HNEW:Hid (jI pre r kind key c (some []) (jH S.rows n G P (k+1)) (xk (fun g c=>Qp g c++[Qm g c]) n (k+1))=some (l++part)):=by
     show _=_
     rw [HSTEP.out,HSOME.out,Option.bind_some,HP3.out,if_pos (by rw [hmt])]
    clear hmt
    obtain ⟨b2,off2,rfl,hb2lt,hcell⟩:=HL4.out.at_ (List.ne_nil_of_length_pos hpl0)
    have HCL:=hid (Lies.cells hcell)
    clear hcell
    have hz4:=HB4.out.size
    go_wp2_with (refine wpList_append_lies _ rfl _ _ _ rfl w.heap.size 34 i1 _ 3 32 Tryz.underlying29 hi1 hy0 hy1 hy2 rfl (by omega) _ l.length (qz l) rfl Ho4.out ⟨b2,off2,none⟩ part.length cap2 (qz part) rfl (Xb part) HCL.out (Re part) hpl0 (by unfold maxLen;omega) (by omega) (by omega) _ rfl ?_;intro gg gc w6 hown6 hgr6 hat6 hlt6)
    have HO6:=hid hown6
    have HQ6:=hid (jz hgr6 Ho4.out Hq4.out (by decide))
    have HB6:=hid ((HB.out.trans (HB4.out.mono hwz)).grown hgr6 (by omega) (fun k hk=>(Ho4.out.lt k hk).1))
    clear hown6 hgr6 hat6 hlt6
    go_wp2
    go_roundw
    case rel =>
     refine ⟨k+1,l++part,by omega,by go_num,HNEW.out,by rw [List.length_append];omega,HSM.out,?_,HQ6.out,HB6.out⟩
     rw [ZK,List.length_append]
     exact HO6.out
    case measure=>simp [intOf];omega
   ·have hbq:(p == Qf kind part)=false:=by rw [beq_eq_false_iff_ne];exact hmt
    rw [hbq]
    clear hbq
    refine (qS w4).mono ?_
    rintro e w5 ⟨rfl,rfl⟩
    have HE:Hid (jI pre r kind key c (some []) (qt S) S.mods=none):=HNONE.out (by rw [HSTEP.out,HSOME.out,Option.bind_some,HP3.out,if_neg (by intro h;injection h with h;exact hmt h)])
    have HBE:=hid (HB.out.trans (HB4.out.mono hwz))
    clear hmt
    go_wp2
    exact ⟨rfl,HBE.out,.inl ⟨HE.out,rfl⟩⟩
  ·have hke:k=CN:=by omega
   subst hke
   have HE:Hid (jI pre r kind key c (some []) (qt S) S.mods=some l):=by
    show _=_
    rw [HALL.out.1,HALL.out.2];exact Hcf.out
   clear hlt
   go_wp2
   go_ret
   exact ⟨HB.out,.inr ⟨l,_,HE.out,rfl,Hsm.out,Hown.out⟩⟩
end
section
theorem Gs (SC:Array Value) (a:Option Addr) (n cp:Nat) (w:World) (h15:SC[15]?=some (.slice a n cp)) :
  Calls Tryz.prog 45 #[.agg SC] w fun e w'=>e=.returned (.slice a n cp)∧Below w.heap.size w w':=by
 obtain ⟨hb0,hl0,_,ho0⟩:=jJ w SC 82
 have HB0:=hid hb0
 clear hb0
 go_enter Tryz.func45,Tryz.ntmps45
 go_wp2
 go_ret
 exact ⟨rfl,HB0.out⟩
theorem TZ (S:SheetF) (G P base:Nat) (SC:Array Value) (cv:Value) (Kb:Nat) (V:Nat→Value) (Qp:Nat→Nat→List ModF) (Qm:Nat→Nat→ModF) (Pv:Nat→Nat→Value) (pre:List UInt8) (r:List KeyB) (c:Nat) (w:World)
  (hS:SheetGo S G P base w SC cv Kb V Qp Qm Pv) (hc:c < S.cols.length) (hpre:pre.length≤20) (hsec:(ji r (jg S.cols c).key).length≤1000) (B0 B1 B2 B3:Nat)
  (h0:w.heap[B0]?=some (.cells SC 82 (0,0))) (h1:w.cell? ⟨B1,0,none⟩=some (.int .i64 (c:Int))) (h2:w.cell? ⟨B2,0,none⟩=some (strB (ji r (jg S.cols c).key))) (h3:w.cell? ⟨B3,0,none⟩=some (strB pre)) :
  Calls Tryz.prog 78 #[.pointer (some ⟨B0,0,none⟩),.pointer (some ⟨B1,0,none⟩),.pointer (some ⟨B2,0,none⟩),.pointer (some ⟨B3,0,none⟩)] w (Eg (jI pre r (jg S.cols c).kind (jg S.cols c).key c (some []) (qt S) S.mods) w):=by
 have HC:=hid (NQ S G P base SC cv Kb V Qp Qm Pv pre r c w hS hc hpre hsec)
 have hinf:=hS.inf
 clear hS hc hpre hsec
 generalize jI pre r (jg S.cols c).kind (jg S.cols c).key c (some []) (qt S) S.mods=O at *
 generalize ji r (jg S.cols c).key=sec at *
 go_enter Tryz.func78,Tryz.ntmps78
 go_wp2_with (refine wpList_load_row rfl 82 (.tmp 0) rfl B0 rfl 82 SC (0,0) _ h0 Tryz.underlying82 rfl hinf ?_)
 refine HC.out.mono ?_
 rintro e w2 ⟨hb2,⟨hn,rfl⟩|⟨l,v,hu,rfl,hsm,hown⟩⟩
 ·have HN:=hid hn
  clear hn
  go_wp2
  exact ⟨rfl,hb2,.inl ⟨HN.out,rfl⟩⟩
 ·have HU:=hid hu
  have HSM:=hid hsm
  have HO:=hid hown
  obtain ⟨va,vc,rfl⟩:=jK hown
  clear hu hsm hown
  go_wp2
  go_ret
  exact ⟨hb2,.inr ⟨l,_,HU.out,rfl,HSM.out,HO.out⟩⟩
theorem ID {w:World} {B e s n:Nat} {v:Value} {xs:List Value} (h:w.ownsRow (B+1) e s v n xs) (b:Value):(w.setCell ⟨B,0,none⟩ b).ownsRow (B+1) e s v n xs :=
 h.kept (qr w B 0 b) (by
  rcases hv:v.ownBlock with _|k
  ·exact .inl rfl
  ·refine .inr (fun e=>?_)
   have:=(h.lt k hv).1
   injection e with e
   omega)
theorem Lb (S:SheetF) (G P base:Nat) (SC:Array Value) (cv:Value) (Kb:Nat) (V:Nat→Value) (Qp:Nat→Nat→List ModF) (Qm:Nat→Nat→ModF) (Pv:Nat→Nat→Value) (pre:List UInt8) (r:List KeyB) (c:Nat) (w:World)
  (hS:SheetGo S G P base w SC cv Kb V Qp Qm Pv) (hc:c < S.cols.length) (hpre:pre.length≤20) (hsec:(ji r (jg S.cols c).key).length≤1000) (B0 B1 B2 B3:Nat)
  (h0:w.heap[B0]?=some (.cells SC 82 (0,0))) (h1:w.cell? ⟨B1,0,none⟩=some (.int .i64 (c:Int))) (h2:w.cell? ⟨B2,0,none⟩=some (strB (ji r (jg S.cols c).key))) (h3:w.cell? ⟨B3,0,none⟩=some (strB pre)) :
  Calls Tryz.prog 77 #[.func (.func 78) #[] #[.pointer (some ⟨B0,0,none⟩),.pointer (some ⟨B1,0,none⟩),.pointer (some ⟨B2,0,none⟩),.pointer (some ⟨B3,0,none⟩)]] w fun e w'=>Below w.heap.size w w' ∧
   ((jI pre r (jg S.cols c).kind (jg S.cols c).key c (some []) (qt S) S.mods=none∧e=.returned (.tuple #[.slice none 0 0,.bool false]))∨∃ l v,jI pre r (jg S.cols c).kind (jg S.cols c).key c (some []) (qt S) S.mods=some l∧e=.returned (.tuple #[v,.bool true])∧(∀ c ∈ l,qG c)∧w'.ownsRow w.heap.size 34 3 v l.length (qz l)):=by
 have hmf:∀ (fn:Fn) (first cap:Array Value) (w:World),(Instr.makeFunc fn first cap).run Tryz.prog w=.ok (.func fn first cap) w:=fun _ _ _ _=>rfl
 have hb0:Below w.heap.size w (w.alloc (Obj.cells #[Value.bool false] 4)):=(Below.refl _ _).alloc (Nat.le_refl _) _
 have HW:=hid (TZ S G P base SC cv Kb V Qp Qm Pv pre r c (w.alloc (Obj.cells #[Value.bool false] 4)) (hS.later hb0) hc hpre hsec B0 B1 B2 B3 (jd hb0 h0) (je _ h1) (je _ h2) (je _ h3))
 clear hS hc hpre hsec h0 h1 h2 h3
 generalize jI pre r (jg S.cols c).kind (jg S.cols c).key c (some []) (qt S) S.mods=O at *
 go_enter_defers Tryz.func77,Tryz.ntmps77
 go_wp2_with fail
 refine HW.out.mono ?_
 rintro e w2 ⟨hb2,ho⟩
 have hc2:w2.cell? ⟨w.heap.size,0,none⟩=some (.bool false):=(hb2.cell (p:=⟨w.heap.size,0,none⟩) (by show w.heap.size < (w.alloc _).heap.size;simp)).trans (World.cell?_alloc_mark ..)
 have hz2:w2.frozen? ⟨w.heap.size,0,none⟩=false:=(hb2.frozen (p:=⟨w.heap.size,0,none⟩) (by show w.heap.size < (w.alloc _).heap.size;simp)).trans (World.frozen?_alloc_at _ _ _ _ rfl)
 have HB2:=hid (hb0.trans (hb2.mono hb0.size))
 have hlt2:w.heap.size < w2.heap.size:=World.block_lt_of_cell? w2 _ hc2
 rcases ho with ⟨hn,rfl⟩|⟨l,v,hu,rfl,hsm,hown⟩
 ·have Hn:=hid hn
  clear hn hb2 hb0 HW
  go_wp2
  refine leaves_cons (f:=110) (args:=#[.pointer (some ⟨w.heap.size,0,none⟩)]) (by simp) (by simp [go_sem]) ?_
  refine (GT ⟨w.heap.size,0,none⟩ false 9 _ [] _ hc2 hz2).mono ?_
  rintro e u' w'' ⟨rfl,rfl,rfl⟩
  have hW:=World.cell?_setCell_same w2 ⟨w.heap.size,0,none⟩ (.bool false) hc2
  have HBW:=hid (HB2.out.setCell (p:=⟨w.heap.size,0,none⟩) (Nat.le_refl _) (.bool false))
  generalize w2.setCell _ _=W at *
  simp [Leaves,settle,results,Tryz.results77,go_sem,hW]
  exact ⟨HBW.out,Hn.out⟩
 ·have Hu:=hid hu
  have Hsm:=hid hsm
  have Hown:Hid (w2.ownsRow (w.heap.size+1) 34 3 v l.length (qz l)):=by
   have e:(w.alloc (Obj.cells #[Value.bool false] 4)).heap.size=w.heap.size+1:=by simp
   rw [e] at hown
   exact hown
  obtain ⟨va,vc,rfl⟩:=jK hown
  clear hu hsm hown hb2 hb0 HW
  go_wp2
  refine leaves_cons (f:=110) (args:=#[.pointer (some ⟨w.heap.size,0,none⟩)]) (by simp) (by simp [go_sem]) ?_
  refine (MM ⟨w.heap.size,0,none⟩ true _ ?_ ?_).mono ?_
  ·exact World.cell?_setCell_same w2 ⟨w.heap.size,0,none⟩ (.bool true) hc2
  ·simp [hz2]
  rintro e u' w'' ⟨rfl,rfl,rfl⟩
  have hW1:=World.cell?_setCell_same w2 ⟨w.heap.size,0,none⟩ (.bool true) hc2
  have hW:=World.cell?_setCell_same _ ⟨w.heap.size,0,none⟩ (.bool true) hW1
  have HBW:=hid ((HB2.out.setCell (p:=⟨w.heap.size,0,none⟩) (Nat.le_refl _) (.bool true)).setCell (p:=⟨w.heap.size,0,none⟩) (Nat.le_refl _) (.bool true))
  have HLW:=hid (jS (ID (ID Hown.out (.bool true)) (.bool true)) (b':=w.heap.size) (Nat.le_succ _))
  clear hW1
  generalize (w2.setCell _ _).setCell _ _=W at *
  simp [Leaves,settle,results,Tryz.results77,go_sem,hW]
  exact ⟨HBW.out,l,Hu.out,Hsm.out,HLW.out⟩
theorem RV (S:SheetF) (G P base:Nat) (SC:Array Value) (cv:Value) (Kb:Nat) (V:Nat→Value) (Qp:Nat→Nat→List ModF) (Qm:Nat→Nat→ModF) (Pv:Nat→Nat→Value) (pre:List UInt8) (ra:Option Addr) (rcap:Nat) (r:List KeyB) (c:Nat) (w:World)
  (hS:SheetGo S G P base w SC cv Kb V Qp Qm Pv) (hc:c < S.cols.length) (hpre:pre.length≤20) (hr:xH r=true) (hrm:r.length≤maxLen) (hl:LiesK w ra r) :
  Calls Tryz.prog 46 #[.agg SC,.int .i64 (c:Int),strB pre,.slice ra r.length rcap] w fun e w'=>Below w.heap.size w w' ∧
   ∃ v,e=.returned (.tuple #[.int .i64 (qh pre r S c).state,v])∧(∀ x ∈ (qh pre r S c).cells,qG x)∧w'.ownsRow w.heap.size 34 3 v (qh pre r S c).cells.length (qz (qh pre r S c).cells):=by
 have hsec:(ji r (jg S.cols c).key).length≤1000:=by
  cases hh:jw r (jg S.cols c).key with
  | true=>rw [Qb hr hh];decide
  | false=>rw [(Zt hr).2 hh];decide
 have hsm:=hS.small _ (show jg S.cols c ∈ S.cols by rw [xy hc];exact List.getElem_mem _)
 have hk0:=hsm.key.1
 have hk9:=hsm.key.2
 have HLK:Hid ((jg S.cols c).key≠0→jw r (jg S.cols c).key=false→(qh pre r S c).state=1∧(qh pre r S c).cells=[]):=fun h1 h2=>by
  unfold qh
  rw [if_pos ⟨by omega,h2⟩]
  exact ⟨rfl,rfl⟩
 have HBR:Hid (((jg S.cols c).key=0∨jw r (jg S.cols c).key=true)→jI pre r (jg S.cols c).kind (jg S.cols c).key c (some []) (qt S) S.mods=none→(qh pre r S c).state=2∧(qh pre r S c).cells=[]):=fun h1 h2=>by
  unfold qh
  rw [if_neg (by rintro ⟨h3,h4⟩;rcases h1 with h1|h1;omega;rw [h1] at h4;cases h4),h2]
  exact ⟨rfl,rfl⟩
 have HGT:Hid (∀ l,((jg S.cols c).key=0∨jw r (jg S.cols c).key=true)→jI pre r (jg S.cols c).kind (jg S.cols c).key c (some []) (qt S) S.mods=some l→(qh pre r S c).state=0∧(qh pre r S c).cells=l):=fun l h1 h2=>by
  unfold qh
  rw [if_neg (by rintro ⟨h3,h4⟩;rcases h1 with h1|h1;omega;rw [h1] at h4;cases h4),h2]
  exact ⟨rfl,rfl⟩
 have HTRY:=hid (fun w' (hb:Below w.heap.size w w') B2 h0 h1 h2 h3=>Lb S G P base SC cv Kb V Qp Qm Pv pre r c w' (hS.later hb) hc hpre hsec w.heap.size (w.heap.size+1) B2 (w.heap.size+1+1) h0 h1 h2 h3)
 have HSE:=hid (fun w' (h:LiesK w' ra r)=>QX ra rcap r (jg S.cols c).key w' hrm h)
 have Hinf:=hid hS.inf
 obtain ⟨cb,cc,rfl,hcb,k0,k1,k2,k3⟩:=Nn hS.cols hc
 have HCO:=hid (fun w'=>Gs SC (some ⟨cb,0,none⟩) S.cols.length cc w' hS.c15)
 have hci:(c:Int) < (S.cols.length:Int):=by omega
 have Hl:=hid hl
 clear hS hpre hr hsec hsm hl k0 k1 k3 hk0 hk9
 generalize qh pre r S c=FD at *
 generalize jI pre r (jg S.cols c).kind (jg S.cols c).key c (some []) (qt S) S.mods=O at *
 generalize ji r (jg S.cols c).key=sec at *
 generalize jw r (jg S.cols c).key=has at *
 generalize (jg S.cols c).key=key at *
 generalize S.cols.length=n at *
 obtain ⟨hb0,hl0,ho0,ho1,ho2⟩:=SX w SC 82 #[.int .i64 (c:Int)] 3 #[strB pre] 9
 have HK2:=hid (je (.cells #[strB pre] 9) (je (.cells #[.int .i64 (c:Int)] 3) (je (.cells SC 82) k2)))
 clear k2
 go_enter Tryz.func46,Tryz.ntmps46
 go_upto_region 1 with fail
 have HB0:=hid hb0
 have Ho0:=hid ho0
 have Ho1:=hid ho1
 have Ho2:=hid ho2
 have HL0:=hid (Hl.out.later hb0)
 clear hb0 ho0 ho1 ho2 hl0
 generalize ((w.alloc _).alloc _).alloc _=W0 at *
 have HC1:Hid (W0.cell? ⟨w.heap.size+1,0,none⟩=some (.int .i64 (c:Int))):=by show _=_;rw [jb Ho1.out];rfl
 refine wp_region_held_drew (S:=fun w'=>w'.heap[w.heap.size]?=some (.cells SC 82 (0,0))∧w'.cell? ⟨w.heap.size+1,0,none⟩=some (.int .i64 (c:Int))∧w'.cell? ⟨cb,c*4+2,none⟩=some (.int .i64 key)) (by kernel_rfl) ?_ (fun hHeld=>?_)
 ·exact ⟨Ho0.out,HC1.out,HK2.out⟩
 refine wpAnyH_take (i:=0) (oi:=_) (v:=.agg SC) rfl (by kernel_rfl) (by kernel_rfl) (by kernel_rfl) (fun _ _ _ h=>h) (Or.inl ⟨by rfl,fun w hSw=>?_⟩) (by assumption) ?_
 ·have hrl:=run_loadVar_row (P:=Tryz.prog) w _ 82 82 SC (0,0) _ hSw.1 Tryz.underlying82 rfl Hinf.out
  unfold execOp
  simp [List.getElem_toArray,List.getElem_cons_zero,Act.eval,Instr.loadAt,Instr.sureAddr,Sem.run_bind,Sem.run_pure,Result.andThen_ok,hrl]
 simp only [jA,jB,jC,Act.put,jD,jE,jF]
 refine tk 2 (.int .i64 (c:Int)) ?_
 simp only [jA,jB,jC,Act.put,jD,jE,jF]
 refine rd 1 (fun K hK=>?_)
 simp only [jA,jB,jC]
 go_simp
 go_at_call 45
 refine (HCO.out _).mono ?_
 rintro e w1 ⟨rfl,hb1⟩
 have hb1':=jl hb1
 have HS1:Hid (w1.heap[w.heap.size]?=some (.cells SC 82 (0,0))∧w1.cell? ⟨w.heap.size+1,0,none⟩=some (.int .i64 (c:Int))∧w1.cell? ⟨cb,c*4+2,none⟩=some (.int .i64 key)) :=
  ⟨jd hb1' Ho0.out,(hb1'.cell (p:=⟨w.heap.size+1,0,none⟩) (World.block_lt_of_cell? W0 _ HC1.out)).trans HC1.out,(hb1'.cell (p:=⟨cb,c*4+2,none⟩) (World.block_lt_of_cell? W0 _ HK2.out)).trans HK2.out⟩
 have HB1:=hid (HB0.out.trans (hb1'.mono HB0.out.size))
 have HL1:=hid (HL0.out.later hb1')
 have Ho2':=hid (jd hb1' Ho2.out)
 have Ho1':=hid (jd hb1' Ho1.out)
 have Ho0':=hid (jd hb1' Ho0.out)
 clear hb1 hb1'
 try go_wp2_with fail
 refine hK.out _ _ HS1.out (fun hHeld=>?_)
 clear hK K
 try simp only [jA,jB,jC,Act.put,jD,jE,jF]
 refine tk 3 (.pointer (some ⟨cb,c*4,none⟩)) ?_
 refine tk 4 (.pointer (some ⟨cb,c*4+2,none⟩)) ?_
 refine tk 5 (.int .i64 key) ?_
 refine tk 6 (.int .i64 key) ?_
 simp only [jA,jB,jC,Act.put,jD,jE,jF]
 refine wpAnyH_done (by kernel_rfl) ?_ _
 clear hHeld HS1 HC1 HK2 Ho0 Ho1 Ho2 HL0 HB0 HCO Hinf
 have hmf:∀ (fn:Fn) (first cap:Array Value) (w:World),(Instr.makeFunc fn first cap).run Tryz.prog w=.ok (.func fn first cap) w:=fun _ _ _ _=>rfl
 go_wp2_with fail
 refine (HSE.out w1 HL1.out).mono ?_
 rintro e w2 ⟨rfl,hb2⟩
 obtain ⟨hb3,hl3,_,ho3⟩:=jJ w2 #[strB sec] 9
 have HB2:=hid (HB1.out.trans (hb2.mono HB1.out.size))
 have HB3:=hid (HB2.out.trans (hb3.mono HB2.out.size))
 have HX0:=hid (jd hb3 (jd hb2 Ho0'.out))
 have HX1:=hid (jd hb3 (jd hb2 Ho1'.out))
 have HX2:=hid (jd hb3 (jd hb2 Ho2'.out))
 have HX3:=hid ho3
 clear hb2 hb3 hl3 ho3 Ho0' Ho1' Ho2' HL1 HB1
 by_cases hbad:key≠0∧has=false
 ·obtain ⟨hk,rfl⟩:=hbad
  obtain ⟨h1,h2⟩:=HLK.out hk rfl
  have Hst:=hid h1
  have Hce:=hid h2
  have hkb:(key != 0)=true:=by rw [bne_iff_ne];exact hk
  clear h1 h2 hk
  go_wp2
  go_ret2
  refine ⟨HB3.out,.slice none 0 0,by rw [Hst.out];rfl,(fun x hx=>by rw [Hce.out] at hx;cases hx),by rw [Hce.out];exact World.ownsRow_nil _ _ _ _⟩
 ·have hgood:key=0∨has=true:=by
   by_cases h:key=0
   ·exact .inl h
   ·right
    cases has with
    | true=>rfl
    | false=>exact absurd ⟨h,rfl⟩ hbad
  have Hgood:=hid hgood
  clear hbad hgood
  by_cases hk:key=0
  ·subst hk
   go_wp2_with fail
   have HC1:Hid ((w2.alloc (.cells #[strB sec] 9)).cell? ⟨w.heap.size+1,0,none⟩=some (.int .i64 (c:Int))):=by show _=_;rw [jb HX1.out];rfl
   have HC2:Hid ((w2.alloc (.cells #[strB sec] 9)).cell? ⟨w.heap.size+1+1,0,none⟩=some (strB pre)):=by show _=_;rw [jb HX2.out];rfl
   have HC3:Hid ((w2.alloc (.cells #[strB sec] 9)).cell? ⟨w2.heap.size,0,none⟩=some (strB sec)):=by show _=_;rw [jb HX3.out];rfl
   refine (HTRY.out _ HB3.out w2.heap.size HX0.out HC1.out HC3.out HC2.out).mono ?_
   clear HX0 HX1 HX2 HX3 HC1 HC2 HC3 HTRY
   generalize w2.alloc _=w3 at *
   rintro e w4 ⟨hb4,⟨hn,rfl⟩|⟨l,v,hu,rfl,hsm,hown⟩⟩
   ·have HB4:=hid (HB3.out.trans (hb4.mono HB3.out.size))
    obtain ⟨h1,h2⟩:=HBR.out Hgood.out hn
    have Hst:=hid h1
    have Hce:=hid h2
    clear h1 h2 hn hb4
    go_wp2
    go_ret2
    exact ⟨HB4.out,.slice none 0 0,by rw [Hst.out];rfl,(fun x hx=>by rw [Hce.out] at hx;cases hx),by rw [Hce.out];exact World.ownsRow_nil _ _ _ _⟩
   ·have HB4:=hid (HB3.out.trans (hb4.mono HB3.out.size))
    obtain ⟨h1,h2⟩:=HGT.out l Hgood.out hu
    have Hst:=hid h1
    have Hce:=hid h2
    have Hsm:=hid hsm
    have Hown:=hid (jS hown HB3.out.size)
    obtain ⟨va,vc,rfl⟩:=jK hown
    clear h1 h2 hu hb4 hsm hown
    go_wp2
    go_ret2
    exact ⟨HB4.out,_,by rw [Hst.out];rfl,(fun x hx=>by rw [Hce.out] at hx;exact Hsm.out x hx),by rw [Hce.out];exact Hown.out⟩
  ·have hkb:(key != 0)=true:=by rw [bne_iff_ne];exact hk
   have hh:has=true:=by
    rcases Hgood.out with h|h
    ·exact absurd h hk
    ·exact h
   subst hh
   clear hk
   go_wp2_with fail
   have HC1:Hid ((w2.alloc (.cells #[strB sec] 9)).cell? ⟨w.heap.size+1,0,none⟩=some (.int .i64 (c:Int))):=by show _=_;rw [jb HX1.out];rfl
   have HC2:Hid ((w2.alloc (.cells #[strB sec] 9)).cell? ⟨w.heap.size+1+1,0,none⟩=some (strB pre)):=by show _=_;rw [jb HX2.out];rfl
   have HC3:Hid ((w2.alloc (.cells #[strB sec] 9)).cell? ⟨w2.heap.size,0,none⟩=some (strB sec)):=by show _=_;rw [jb HX3.out];rfl
   refine (HTRY.out _ HB3.out w2.heap.size HX0.out HC1.out HC3.out HC2.out).mono ?_
   clear HX0 HX1 HX2 HX3 HC1 HC2 HC3 HTRY
   generalize w2.alloc _=w3 at *
   rintro e w4 ⟨hb4,⟨hn,rfl⟩|⟨l,v,hu,rfl,hsm,hown⟩⟩
   ·have HB4:=hid (HB3.out.trans (hb4.mono HB3.out.size))
    obtain ⟨h1,h2⟩:=HBR.out Hgood.out hn
    have Hst:=hid h1
    have Hce:=hid h2
    clear h1 h2 hn hb4
    go_wp2
    go_ret2
    exact ⟨HB4.out,.slice none 0 0,by rw [Hst.out];rfl,(fun x hx=>by rw [Hce.out] at hx;cases hx),by rw [Hce.out];exact World.ownsRow_nil _ _ _ _⟩
   ·have HB4:=hid (HB3.out.trans (hb4.mono HB3.out.size))
    obtain ⟨h1,h2⟩:=HGT.out l Hgood.out hu
    have Hst:=hid h1
    have Hce:=hid h2
    have Hsm:=hid hsm
    have Hown:=hid (jS hown HB3.out.size)
    obtain ⟨va,vc,rfl⟩:=jK hown
    clear h1 h2 hu hb4 hsm hown
    go_wp2
    go_ret2
    exact ⟨HB4.out,_,by rw [Hst.out];rfl,(fun x hx=>by rw [Hce.out] at hx;exact Hsm.out x hx),by rw [Hce.out];exact Hown.out⟩
end
section
def Gb (f:FoundB) (v:Value):List Value:=[strB f.name,.int .i64 f.kind,.int .i64 f.key,.int .i64 f.state,v]
def Xc (F:Nat→FoundB) (Vs:Nat→Value) (n:Nat):List Value:=(List.range n).flatMap fun j=>Gb (F j) (Vs j)
theorem Km (F:Nat→FoundB) (Vs:Nat→Value) (n:Nat):Xc F Vs (n+1)=Xc F Vs n++Gb (F n) (Vs n):=by simp [Xc,List.range_succ]
theorem RS (F:Nat→FoundB) {Vs Ws:Nat→Value} {n:Nat} (h:∀ j,j < n→Vs j=Ws j):Xc F Vs n=Xc F Ws n:=by
 induction n with
 | zero=>rfl
 | succ n ih=>rw [Km,Km,ih (fun j hj=>h j (by omega)),h n (by omega)]
structure FoundsAt (base:Nat) (w:World) (v:Value) (F:Nat→FoundB) (n:Nat) (Vs:Nat→Value):Prop where
 row:w.ownsRow base 94 5 v n (Xc F Vs n)
 cells:∀ j,j < n→w.ownsRow base 34 3 (Vs j) (F j).cells.length (qz (F j).cells)
 small:∀ j,j < n→∀ x ∈ (F j).cells,qG x
 apart:∀ i j,i < j→j < n→∀ a b,(Vs i).ownBlock=some a→(Vs j).ownBlock=some b→a < b
theorem FoundsAt.later {base:Nat} {w w':World} {v:Value} {F:Nat→FoundB} {n:Nat} {Vs:Nat→Value} (h:FoundsAt base w v F n Vs) (hb:Below w.heap.size w w'):FoundsAt base w' v F n Vs :=
 ⟨jN h.row hb,fun j hj=>jN (h.cells j hj) hb,h.small,h.apart⟩
theorem FoundsAt.lower {base b:Nat} {w:World} {v:Value} {F:Nat→FoundB} {n:Nat} {Vs:Nat→Value} (h:FoundsAt base w v F n Vs) (hb:b≤base):FoundsAt b w v F n Vs :=
 ⟨jS h.row hb,fun j hj=>jS (h.cells j hj) hb,h.small,h.apart⟩
theorem Tryz.infoFound:(Tryz.prog.info? 94).map (fun i=>(i.zero,i.size,i.bytes))=some (some (.agg #[.string ⟨#[]⟩,.int .i64 0,.int .i64 0,.int .i64 0,.slice none 0 0]),5,64):=by kernel_rfl
theorem FoundsAt.step {base:Nat} {w w':World} {v v' u:Value} {F:Nat→FoundB} {n B:Nat} {Vs:Nat→Value} (h:FoundsAt base w v F n Vs) (hB:∀ j,j < n→∀ a,(Vs j).ownBlock=some a→a < B) (hu:w.ownsRow B 34 3 u (F n).cells.length (qz (F n).cells)) (hbB:base≤B) (hs:∀ x ∈ (F n).cells,qG x)
  (hg:w.grownBy w' v.ownBlock) (hr:w'.ownsRow base 94 5 v' (n+1) (Xc F Vs n++Gb (F n) u)):FoundsAt base w' v' F (n+1) (fun j=>if j=n then u else Vs j):=by
 have hlt:∀ j,j < n→(if j=n then u else Vs j)=Vs j:=fun j hj=>if_neg (by omega)
 have heq:(if n=n then u else Vs n)=u:=if_pos rfl
 refine ⟨?_,?_,?_,?_⟩
 ·rw [Km,RS F (Ws:=Vs) hlt]
  show w'.ownsRow base _ 5 v' (n+1) (Xc F Vs n++Gb (F n) (if n=n then u else Vs n))
  rw [heq]
  exact hr
 ·intro j hj
  by_cases he:j=n
  ·subst he
   show w'.ownsRow base _ 3 (if j=j then u else Vs j) _ _
   rw [heq]
   exact jS (hu.kept hg (zn hu h.row (by decide))) hbB
  ·rw [hlt j (by omega)]
   exact (h.cells j (by omega)).kept hg (zn (h.cells j (by omega)) h.row (by decide))
 ·intro j hj
  by_cases he:j=n
  ·subst he;exact hs
  ·exact h.small j (by omega)
 ·intro i j hij hj a b ha hb
  have ha':(if i=n then u else Vs i).ownBlock=some a:=ha
  have hb':(if j=n then u else Vs j).ownBlock=some b:=hb
  rw [hlt i (by omega)] at ha'
  by_cases he:j=n
  ·subst he
   rw [heq] at hb'
   have h1:=hB i (by omega) a ha'
   have h2:=(hu.lt b hb').1
   omega
  ·rw [hlt j (by omega)] at hb'
   exact h.apart i j hij (by omega) a b ha' hb'
theorem FoundsAt.past {base:Nat} {w w':World} {v:Value} {F:Nat→FoundB} {n B:Nat} {Vs:Nat→Value} (h:FoundsAt base w v F n Vs) (hg:w.grownBy w' (some B)) (hr:∀ a,v.ownBlock=some a→a < B) (hB:∀ j,j < n→∀ a,(Vs j).ownBlock=some a→a < B):FoundsAt base w' v F n Vs:=by
 have key:∀ {u:Value},(∀ a,u.ownBlock=some a→a < B)→u.ownBlock=none∨u.ownBlock≠some B:=fun {u} hu=>by
  rcases hv:u.ownBlock with _|k
  ·exact .inl rfl
  ·refine .inr (fun e=>?_)
   have:=hu k hv
   injection e with e
   omega
 exact ⟨h.row.kept hg (key hr),fun j hj=>(h.cells j hj).kept hg (key (hB j hj)),h.small,h.apart⟩
theorem KE (S:SheetF) (G P base:Nat) (SC:Array Value) (cv:Value) (Kb:Nat) (V:Nat→Value) (Qp:Nat→Nat→List ModF) (Qm:Nat→Nat→ModF) (Pv:Nat→Nat→Value) (pre:List UInt8) (ra:Option Addr) (rcap:Nat) (r:List KeyB) (w:World)
  (hS:SheetGo S G P base w SC cv Kb V Qp Qm Pv) (hpre:pre.length≤20) (hr:xH r=true) (hrm:r.length≤maxLen) (hl:LiesK w ra r) :
  Calls Tryz.prog 25 #[.agg SC,strB pre,.slice ra r.length rcap] w fun e w'=>Below w.heap.size w w'∧∃ v Vs,e=.returned v∧FoundsAt w.heap.size w' v (qh pre r S) S.cols.length Vs:=by
 obtain ⟨i0,hi,hz0,hz1,hz2⟩:=info_parts Tryz.infoFound
 have hn6:=hS.n6
 have HFC:=hid (fun c hc w' (hb:Below w.heap.size w w')=>RV S G P base SC cv Kb V Qp Qm Pv pre ra rcap r c w' (hS.later hb) hc hpre hr hrm (hl.later hb))
 have Hinf:=hid hS.inf
 have HFN:Hid (∀ c,(qh pre r S c).name=(jg S.cols c).name∧(qh pre r S c).kind=(jg S.cols c).kind∧(qh pre r S c).key=(jg S.cols c).key):=fun c=>by
  unfold qh
  split
  ·exact ⟨rfl,rfl,rfl⟩
  ·split<;>exact ⟨rfl,rfl,rfl⟩
 have HCA:=hid (fun c (hc:c < S.cols.length) w' (hb:Below w.heap.size w w')=>Nn (jN hS.cols hb) hc)
 obtain ⟨ca,cc,rfl⟩:=jK hS.cols
 have HCO:=hid (fun w'=>Gs SC ca S.cols.length cc w' hS.c15)
 clear hS hpre hr hl
 generalize qh pre r S=F at *
 generalize S.cols.length=n at *
 obtain ⟨hb0,hl0,_,ho0⟩:=jJ w SC 82
 have HB0:=hid hb0
 have Ho0:=hid ho0
 clear hb0 ho0
 go_enter Tryz.func25,Tryz.ntmps25
 go_upto_region 2 with fail
 generalize w.alloc _=W0 at *
 go_wp2_with (refine wpList_load_row rfl 82 (.tmp 3) rfl w.heap.size rfl 82 SC (0,0) _ Ho0.out Tryz.underlying82 rfl Hinf.out ?_)
 refine (HCO.out W0).mono ?_
 rintro e w1 ⟨rfl,hb1⟩
 have HB1:=hid (HB0.out.trans (hb1.mono HB0.out.size))
 have Ho1:=hid (jd hb1 Ho0.out)
 clear hb1 HCO Ho0 HB0
 go_wp2
 go_loopw [7,14] (fun v i wr=>∃ (k:Nat) (Vs:Nat→Value),k≤n∧i=.int .i64 (k:Int)∧FoundsAt w.heap.size wr v F k Vs∧wr.heap[w.heap.size]?=some (.cells SC 82 (0,0))∧Below w.heap.size w wr) (fun _ i _=>n - (intOf i).toNat)
 case atStart=>exact ⟨0,fun _=>.slice none 0 0,Nat.zero_le _,rfl,⟨World.ownsRow_nil _ _ _ _,fun j hj=>absurd hj (by omega),fun j hj=>absurd hj (by omega),fun i j _ hj=>absurd hj (by omega)⟩,Ho1.out,HB1.out⟩
 case round =>
  obtain ⟨k,Vs,hkn,rfl,hfa,hq,hB⟩:=hrel
  have HFA:=hid hfa
  have Hq:=hid hq
  have HB:=hid hB
  have hwz:=hB.size
  obtain ⟨va,vc,rfl⟩:=jK hfa.row
  clear hfa hq hB
  by_cases hlt:k < n
  ·have hki:(k:Int) < (n:Int):=by omega
   obtain ⟨cb,cc2,hca,hcb,k0,k1,k2,k3⟩:=HCA.out k hlt wr HB.out
   injection hca with hca1 _ hca3
   subst hca1 hca3
   have HFNk:=hid (HFN.out k)
   have HFCk:=hid (fun w'=>HFC.out k hlt w')
   clear HFN HFC HCA
   generalize (jg S.cols k).name=nm at *
   generalize (jg S.cols k).kind=kd at *
   generalize (jg S.cols k).key=ky at *
   obtain ⟨hbx,hsx,hcx,hhx⟩:=jJ wr #[strB nm,.int .i64 kd,.int .i64 ky,.slice none 0 0] 31
   have x0:=hcx 0
   have x1:=hcx 1
   have x2:=hcx 2
   simp only [List.getElem?_toArray,List.getElem?_cons_zero,List.getElem?_cons_succ] at x0 x1 x2
   clear hcx hhx
   go_upto_region 6 with fail
   clear x0 x1 x2 k0 k1 k2 k3 hbx hsx
   obtain ⟨hby,hly,_,hhy⟩:=JQ wr #[strB nm,.int .i64 kd,.int .i64 ky,.slice none 0 0] 31 #[strB nm,.int .i64 kd,.int .i64 ky,.int .i64 0,.slice none 0 0] 94
   have HBy:=hid hby
   have Hqy:=hid (jd hby Hq.out)
   have Hfy:=hid hhy
   have HFAy:=hid (HFA.out.later hby)
   clear hby hhy hly
   generalize hwy:(wr.alloc _).alloc _=wy at *
   clear hwy
   go_wp2_with (refine wpList_load_row rfl 82 (.tmp 3) rfl w.heap.size rfl 82 SC (0,0) _ Hqy.out Tryz.underlying82 rfl Hinf.out ?_)
   refine (HFCk.out wy (HB.out.trans (HBy.out.mono hwz))).mono ?_
   rintro e w2 ⟨hb2,u,rfl,hsm2,hown2⟩
   have HB2:=hid (HBy.out.trans (hb2.mono HBy.out.size))
   have Hq2:=hid (jd hb2 Hqy.out)
   have Hf2:=hid (jd hb2 Hfy.out)
   have HFA2:=hid (HFAy.out.later hb2)
   have HSM2:=hid hsm2
   have HO2:=hid hown2
   obtain ⟨ua,uc,rfl⟩:=jK hown2
   have c3:w2.cell? ⟨wr.heap.size+1,3,none⟩=some (.int .i64 0):=by rw [jb Hf2.out];rfl
   have c4:w2.cell? ⟨wr.heap.size+1,4,none⟩=some (.slice none 0 0):=by rw [jb Hf2.out];rfl
   have f3:=frozen_of_row w2 (wr.heap.size+1) 3 _ _ Hf2.out
   have f4:=frozen_of_row w2 (wr.heap.size+1) 4 _ _ Hf2.out
   clear hb2 hsm2 hown2
   go_upto_region 7 with fail
   clear c3 c4 f3 f4
   have hBy:wr.heap.size+1 < wy.heap.size:=(Array.getElem?_eq_some_iff.1 Hfy.out).1
   have h3:=heap_setCell_same w2 (wr.heap.size+1) 3 _ _ (.int .i64 (F k).state) Hf2.out
   have h4:=heap_setCell_same (w2.setCell ⟨wr.heap.size+1,3,none⟩ (.int .i64 (F k).state)) (wr.heap.size+1) 4 _ _ (.slice ua (F k).cells.length uc) h3
   have hgs:=jf (qr w2 (wr.heap.size+1) 3 (.int .i64 (F k).state)) (qr (w2.setCell ⟨wr.heap.size+1,3,none⟩ (.int .i64 (F k).state)) (wr.heap.size+1) 4 (.slice ua (F k).cells.length uc))
   have Hf4:Hid (((w2.setCell ⟨wr.heap.size+1,3,none⟩ (.int .i64 (F k).state)).setCell ⟨wr.heap.size+1,4,none⟩ (.slice ua (F k).cells.length uc)).heap[wr.heap.size+1]?=some (.cells #[strB nm,.int .i64 kd,.int .i64 ky,.int .i64 (F k).state,.slice ua (F k).cells.length uc] 94 (0,0))):=h4
   have HLT:Hid (∀ j,j < k→∀ a,(Vs j).ownBlock=some a→a < wr.heap.size+1):=fun j hj a ha=>by
    have:=((HFA.out.cells j hj).lt a ha).2
    omega
   have HFA4:=hid (HFA2.out.past hgs (fun a ha=>by have:=(HFA.out.row.lt a ha).2;omega) HLT.out)
   have Hq4:=hid (jk hgs Hq2.out (by omega))
   have HO4:=hid (HO2.out.kept hgs (by
    rcases hv:(Value.slice ua (F k).cells.length uc).ownBlock with _|b
    ·exact .inl rfl
    ·refine .inr (fun e=>?_)
     have:=(HO2.out.lt b hv).1
     injection e with e
     omega))
   have HB4:=hid (HB2.out.trans (jq hgs (by omega) HB2.out.size))
   clear h3 h4 hgs
   generalize (w2.setCell _ _).setCell _ _=w4 at *
   have hownA:=HFA4.out.row
   have hz4:=HB4.out.size
   go_wp2_with (first|(refine wpList_load_row rfl 94 (.tmp 10) rfl (wr.heap.size+1) rfl 94 _ (0,0) _ Hf4.out Tryz.underlying94 rfl (by kernel_rfl) ?_)|(at_builtin;refine wpList_append_own _ rfl (.tmp 36) (.tmp 38) 49 rfl w.heap.size 94 i0 (.agg #[.string ⟨#[]⟩,.int .i64 0,.int .i64 0,.int .i64 0,.slice none 0 0]) 5 64 Tryz.underlying49 hi hz0 hz1 hz2 rfl (by decide) _ _ _ rfl (hownA.alloc _) ⟨_,0,none⟩ 1 1 [strB nm,.int .i64 kd,.int .i64 ky,.int .i64 (F k).state,.slice ua (F k).cells.length uc] rfl rfl ?c1 ?c2 ?c3 ?c4 ?c5 ?_))
   case c1=>exact Vf w4 #[strB nm,.int .i64 kd,.int .i64 ky,.int .i64 (F k).state,.slice ua (F k).cells.length uc] 94 (by simp)
   case c2=>intro u hu;simp at hu;rcases hu with rfl|rfl|rfl|rfl|rfl<;>rfl
   case c3=>unfold maxLen;omega
   case c4=>omega
   case c5=>simp;omega
   intro v5 w5 hown5 hgr5 _
   have hba:Below w4.heap.size w4 (w4.alloc (.cells #[strB nm,.int .i64 kd,.int .i64 ky,.int .i64 (F k).state,.slice ua (F k).cells.length uc] 94)):=(Below.refl _ _).alloc (Nat.le_refl _) _
   obtain ⟨hn1,hn2,hn3⟩:=HFNk.out
   have HFA5:=hid ((HFA4.out.later hba).step (fun j hj a ha=>Nat.lt_trans (HLT.out j hj a ha) hBy) (jN HO4.out hba) (Nat.le_trans hwz (by omega)) HSM2.out hgr5 (by
    unfold Gb
    rw [hn1,hn2,hn3]
    exact hown5))
   have Hq5:=hid (jz hgr5 (hownA.alloc _) (jd hba Hq4.out) (by decide))
   have HB5:=hid (((HB.out.trans (HB4.out.mono hwz)).trans (hba.mono (by omega))).grown hgr5 (by simp;omega) (fun k hk=>(hownA.lt k hk).1))
   clear hown5 hgr5 hba hownA hn1 hn2 hn3
   go_wp2
   go_roundw
   case rel=>exact ⟨k+1,_,by omega,by go_num,HFA5.out,Hq5.out,HB5.out⟩
   case measure=>simp [intOf];omega
  ·have hke:k=n:=by omega
   subst hke
   clear hlt
   go_wp2
   go_ret
   exact ⟨HB.out,_,Vs,rfl,HFA.out⟩
theorem Ur {file pre:List UInt8} {r:List KeyB} {trust:Bool} {S:SheetF} (h:xe file pre r trust=(0,some S)):pre.length≤20∧xH r=true∧∃ foot parts footer,SheetOk foot parts footer S:=by
 unfold xe at h
 split at h
 ·simp at h
 split at h
 ·simp at h
 rename_i h1 h2
 refine ⟨by omega,by simpa using h2,?_⟩
 split at h
 ·simp at h
 rename_i f hf
 split at h
 ·split at h
  ·simp at h
  ·rename_i S' hS
   refine ⟨_,_,_,Zd (hS.trans ?_)⟩
   split at h
   ·simp at h;rw [h]
   ·split at h
    ·simp at h
    ·split at h
     ·simp at h;rw [h]
     ·simp at h
 ·split at h
  ·simp at h
  ·split at h
   ·simp at h
   ·split at h
    ·simp at h
    ·rename_i S' hS
     simp at h
     exact ⟨_,_,_,Zd (hS.trans (by rw [h]))⟩
def BU (file pre:List UInt8) (r:List KeyB) (trust:Bool) (w:World) (e:Ending) (w':World):Prop :=
 Below w.heap.size w w'∧((∃ err,xe file pre r trust=(err,none)∧err≠0∧e=.returned (.tuple #[.slice none 0 0,.int .i64 err])) ∨
  ∃ S v Vs,xe file pre r trust=(0,some S)∧e=.returned (.tuple #[v,.int .i64 0])∧FoundsAt w.heap.size w' v (qh pre r S) S.cols.length Vs)
theorem Pu (file pre:List UInt8) (ra:Option Addr) (rcap:Nat) (r:List KeyB) (trust:Bool) (w:World) (hfl:file.length≤maxLen) (hpl:pre.length≤maxLen) (hrm:r.length≤maxLen) (hl:LiesK w ra r) :
  Calls Tryz.prog 16 #[strB file,strB pre,.slice ra r.length rcap,.bool trust] w (BU file pre r trust w):=by
 have HRS:=hid (UM file pre ra rcap r trust w hfl hpl hrm hl)
 have HFC:=hid (fun S G P base SC cv Kb V Qp Qm Pv w' (hb:Below w.heap.size w w') h1 h2 h3=>KE S G P base SC cv Kb V Qp Qm Pv pre ra rcap r w' h1 h2 h3 hrm (hl.later hb))
 have HOK:=hid (fun S=>Ur (file:=file) (pre:=pre) (r:=r) (trust:=trust) (S:=S))
 clear hfl hpl hrm hl
 go_enter Tryz.func16,Tryz.ntmps16
 go_wp2_with fail
 refine HRS.out.mono ?_
 clear HRS
 rintro e w1 ⟨f,_,hb1,⟨err,CC,hn,herr,hsz,hone,rfl⟩|⟨S,cv,pv,Kb,V,Qp,Qm,Pv,hn,rfl,hin⟩⟩
 ·have hinf:(Tryz.prog.info? 82).map (·.size)=some CC.size:=by rw [hsz];kernel_rfl
  have hsz0:sheet0.size=CC.size:=by rw [hsz];rfl
  obtain ⟨hbA,hlA,_,hoA⟩:=jJ w1 sheet0 82
  have gA:=jx (w1.alloc (.cells sheet0 82)) w1.heap.size CC
  have HBA:=hid ((hb1.trans (hbA.mono hb1.size)).trans (jq gA hb1.size (Nat.le_trans hb1.size hbA.size)))
  have HN:=hid hn
  have Herr:=hid herr
  have hne:(err != 0)=true:=by rw [bne_iff_ne];exact herr
  clear hsz hn herr hbA gA hb1
  go_wp2_with (refine wpList_store_row rfl 82 (.tmp 10) (.tmp 18) rfl w1.heap.size CC rfl rfl 82 sheet0 hoA hinf hsz0 hone ?_)
  go_ret2
  exact ⟨HBA.out,.inl ⟨err,HN.out,Herr.out,rfl⟩⟩
 ·obtain ⟨h20,hring,foot,parts,footer,hok⟩:=HOK.out S hn
  obtain ⟨_,hsz,hone⟩:=hin.one
  obtain ⟨hbA,hlA,_,hoA⟩:=jJ w1 sheet0 82
  have gA:=jx (w1.alloc (.cells sheet0 82)) w1.heap.size (qO S f cv pv Kb)
  have oA:=setRow_heap (w1.alloc (.cells sheet0 82)) w1.heap.size _ (qO S f cv pv Kb) 82 (0,0) hoA
  have hbB:=(hb1.trans (hbA.mono hb1.size)).trans (jq gA hb1.size (Nat.le_trans hb1.size hbA.size))
  have HBA:=hid hbB
  have hGO:=Cn ((hin.later hbA).grown gA hoA (by decide) (by decide) (by decide) (by decide)) hok
  have HFX:=hid (HFC.out S _ _ _ _ _ _ _ _ _ _ _ hbB hGO h20 hring)
  have HN:=hid hn
  clear hn hin hok hbA hbB gA hb1 hGO HOK HFC
  generalize qO S f cv pv Kb=CC at *
  have hinf:(Tryz.prog.info? 82).map (·.size)=some CC.size:=by rw [hsz];kernel_rfl
  have hsz0:sheet0.size=CC.size:=by rw [hsz];rfl
  clear hsz
  have HINF:=hid hinf
  have HSZ:=hid hsz0
  have HONE:=hid hone
  have HOA:=hid hoA
  have HoA:=hid oA
  clear hinf hsz0 hone hoA oA
  go_wp2_with (first|(refine wpList_store_row rfl 82 (.tmp 10) (.tmp 18) rfl w1.heap.size CC rfl rfl 82 sheet0 HOA.out HINF.out HSZ.out HONE.out ?_)|(refine wpList_load_row rfl 82 (.tmp 10) rfl w1.heap.size rfl 82 CC (0,0) _ HoA.out Tryz.underlying82 rfl HINF.out ?_))
  refine HFX.out.mono ?_
  clear HFX HoA HOA
  generalize (w1.alloc _).setRow _ _=w2 at *
  rintro e w3 ⟨hb3,v,Vs,rfl,hfa⟩
  have HB3:=hid (HBA.out.trans (hb3.mono HBA.out.size))
  have HFA:=hid (hfa.lower HBA.out.size)
  obtain ⟨va,vc,rfl⟩:=jK hfa.row
  clear hb3 hfa
  go_wp2
  go_ret2
  exact ⟨HB3.out,.inr ⟨S,_,Vs,HN.out,rfl,HFA.out⟩⟩
end
end Go.Proofs.YthhpbhpfagoapabGreat
