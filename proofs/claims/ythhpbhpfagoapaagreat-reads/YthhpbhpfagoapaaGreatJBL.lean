import Derived.Test.YthhpbhpfagoapaaGreatJAA
import Derived.Test.YthhpbhpfagoapaaGreatJBI
import Derived.Defers
import Derived.Recover
import Derived.Laws.Pointers
import Derived.Laws.Tables
import Derived.Laws.Rows
import Derived.Test.YthhpbhpfagoapaaGreatJAI
import Derived.Test.YthhpbhpfagoapaaGreatJBG
namespace Go.Proofs.YthhpbhpfagoapaaGreat
set_option linter.unusedVariables false
set_option linter.unusedSimpArgs false
set_option maxRecDepth 100000
set_option maxHeartbeats 16000000
open Go.RowKit
section
abbrev formC (f:FormF):Array Value:=#[.int .i64 (f.foot:Int),.bool f.told,strB f.footer,strB [if f.told=true then 83 else 70],.int .i64 0,.int .i64 0,.int .i64 0,strB f.nonce,strB f.body,strB (ql f)]
abbrev form0:Array Value:=#[.int .i64 0,.bool false,Value.string { data:=#[] },Value.string { data:=#[] },.int .i64 0,.int .i64 0,.int .i64 0,Value.string { data:=#[] },Value.string { data:=#[] },Value.string { data:=#[] }]
theorem Uc (f:FormF):(formC f).all (·.oneCell')=true:=by simp [Value.oneCell']
theorem Ur (w:World) (g:Nat) (cs:Array Value):w.grownBy (w.setRow g cs) (some g) :=
 ⟨rfl,rfl,rfl,by simp,fun k _ hk=>setRow_other w g k cs (fun e=>hk (by rw [e]))⟩
theorem Pn (file:List UInt8) (B:Nat) (w:World) (hs:file.length≤maxLen) (hB:w.cell? ⟨B,0,none⟩=some (strB file)) :
  Calls Tryz.prog 97 #[.pointer (some ⟨B,0,none⟩)] w (LM file w):=by
 have Hs:=hid hs
 have hBa:=jc (.cells form0 115) hB
 clear hs
 obtain ⟨hb0,hl0,_,ho0⟩:=qm w form0 115
 go_enter Tryz.func97,Tryz.ntmps97
 go_wp2_with fail
 clear hBa hB
 refine (Ex file (w.alloc (.cells form0 115)) Hs.out).mono ?_
 generalize w.alloc _=W0 at *
 have HB0:=hid hb0
 have Ho0:=hid ho0
 clear hb0 ho0
 rintro e w1 ⟨hb1,⟨rfl,hn⟩|⟨f,hf,rfl⟩⟩
 ·have HN:=hid hn
  have HB1:=hid (HB0.out.trans (hb1.mono HB0.out.size))
  clear hb1 hn
  go_wp2
  exact ⟨rfl,HB1.out,.inl ⟨rfl,HN.out⟩⟩
 ·have HF:=hid hf
  have HB1:=hid (HB0.out.trans (hb1.mono HB0.out.size))
  have Ho1:=hid (jb hb1 Ho0.out)
  clear hb1 hf
  go_wp2_with (refine wpList_store_row rfl 115 (.tmp 1) (.tmp 3) rfl w.heap.size (formC f) rfl rfl 115 form0 Ho1.out (by kernel_rfl) rfl (Uc f) ?_)
  have HoF:=hid (setRow_heap w1 w.heap.size _ (formC f) 115 (0,0) Ho1.out)
  have HBF:=hid (HB1.out.trans (jg (Ur w1 w.heap.size (formC f)) (ae _) HB1.out.size))
  generalize w1.setRow _ _=WF at *
  exact bodyPost_ret (v:=formV f) (results_cell_row (P:=Tryz.prog) (p:=1) (ty:=115) rfl _ _ w.heap.size 115 (formC f) (0,0) _ rfl HoF.out Tryz.underlying115 rfl (by kernel_rfl)) rfl ⟨HBF.out,.inr ⟨f,HF.out,rfl⟩⟩
theorem VZ (p:Addr) (b:Bool) (u:TypeId) (pv:Value) (older:List PanicEntry) (w:World) (hc:w.cell? p=some (.bool b)) (hz:w.frozen? p=false) :
  CallsD Tryz.prog 154 #[.pointer (some p)] (.panicking ({ v:=.iface u pv,recovered:=false } :: older)) w fun e u' w' =>
   e=.returned (.tuple #[])∧u'=.panicking ({ v:=.iface u pv,recovered:=true } :: older)∧w'=w.setCell p (.bool false):=by
 refine callsD_of_wpS Tryz.func154 rfl fun c₀ cs hu=>?_
 apply wpS_region
 simp [wpOpsS,go_sem,recoverD,hu,Tryz.ntmps154,Exit.thenS,hc,hz,bodyPostS,results,Tryz.results154]
theorem IQ (p:Addr) (b:Bool) (w:World) (hc:w.cell? p=some (.bool b)) (hz:w.frozen? p=false) :
  CallsD Tryz.prog 154 #[.pointer (some p)] .returning w fun e u' w'=>e=.returned (.tuple #[])∧u'=.returning∧w'=w.setCell p (.bool true):=by
 refine callsD_of_wpS Tryz.func154 rfl fun c₀ cs hu=>?_
 apply wpS_region
 simp [wpOpsS,go_sem,recoverD,hu,Tryz.ntmps154,Exit.thenS,hc,hz,bodyPostS,results,Tryz.results154]
 cases c₀
 simp_all
theorem SP (file:List UInt8) (B:Nat) (w:World) (hs:file.length≤maxLen) (hB:w.cell? ⟨B,0,none⟩=some (strB file)) :
  Calls Tryz.prog 96 #[.func (.func 97) #[] #[.pointer (some ⟨B,0,none⟩)]] w fun e w'=>Below w.heap.size w w' ∧
   ((zt file=none∧e=.returned (.tuple #[.agg form0,.bool false]))∨∃ f,zt file=some f∧e=.returned (.tuple #[formV f,.bool true])):=by
 have hmf:∀ (fn:Fn) (first cap:Array Value) (w:World),(Instr.makeFunc fn first cap).run Tryz.prog w=.ok (.func fn first cap) w:=fun _ _ _ _=>rfl
 have Hs:=hid hs
 have hBa:=jc (.cells #[.bool false] 4) (jc (.cells form0 115) hB)
 obtain ⟨hb0,hl0,ho0,hk0⟩:=Qc w form0 115 #[.bool false] 4
 have HBa:=hid hBa
 clear hs hB hBa
 go_enter_defers Tryz.func96,Tryz.ntmps96
 go_wp2_with fail
 refine (Pn file B ((w.alloc (.cells form0 115)).alloc (.cells #[.bool false] 4)) Hs.out HBa.out).mono ?_
 clear HBa
 generalize (w.alloc _).alloc _=W0 at *
 have HB0:=hid hb0
 have Ho0:=hid ho0
 have Hk0:=hid hk0
 clear hb0 ho0 hk0
 rintro e w2 ⟨hb2,ho⟩
 have HB2:=hid (HB0.out.trans (hb2.mono HB0.out.size))
 have Ho2:=hid (jb hb2 Ho0.out)
 have Hk2:=hid (jb hb2 Hk0.out)
 have hc2:w2.cell? ⟨w.heap.size+1,0,none⟩=some (.bool false):=by rw [jd Hk2.out];rfl
 have hz2:w2.frozen? ⟨w.heap.size+1,0,none⟩=false:=frozen_of_row w2 _ _ _ _ Hk2.out
 rcases ho with ⟨rfl,hn⟩|⟨f,hf,rfl⟩
 ·have Hn:=hid hn
  clear hn hb2
  go_wp2
  refine leaves_cons (f:=154) (args:=#[.pointer (some ⟨w.heap.size+1,0,none⟩)]) (by simp) (by simp [go_sem]) ?_
  refine (VZ ⟨w.heap.size+1,0,none⟩ false 9 _ [] _ hc2 hz2).mono ?_
  rintro e u' w'' ⟨rfl,rfl,rfl⟩
  have hW:=bc w2 ⟨w.heap.size+1,0,none⟩ (.bool false) hc2
  have HBW:=hid (HB2.out.setCell (p:=⟨w.heap.size+1,0,none⟩) (by simp) (.bool false))
  have HoW:=hid (jf (qx w2 (w.heap.size+1) 0 (.bool false)) Ho2.out (by omega))
  generalize w2.setCell _ _=W at *
  obtain ⟨⟨o0,o1,o2,o3,o4,o5,o6,o7,o8,o9⟩,_⟩:=xn HoW.out
  simp [Leaves,settle,results,Tryz.results96,go_sem,hW,o0,o1,o2,o3,o4,o5,o6,o7,o8,o9]
  exact ⟨HBW.out,Hn.out⟩
 ·have Hf:=hid hf
  have hg3:=Ur w2 w.heap.size (formC f)
  have Hk3:=hid (jf hg3 Hk2.out (by omega))
  have Ho3:=hid (setRow_heap w2 w.heap.size _ (formC f) 115 (0,0) Ho2.out)
  have HB3:=hid (HB2.out.trans (jg hg3 (ae _) HB2.out.size))
  have hc3:(w2.setRow w.heap.size (formC f)).cell? ⟨w.heap.size+1,0,none⟩=some (.bool false):=by rw [jd Hk3.out];rfl
  have hz3:(w2.setRow w.heap.size (formC f)).frozen? ⟨w.heap.size+1,0,none⟩=false:=frozen_of_row _ _ _ _ _ Hk3.out
  clear hf hb2 hg3 hc2 hz2
  go_wp2_with (refine wpList_store_row rfl 115 (.tmp 2) (.tmp 6) rfl w.heap.size (formC f) rfl rfl 115 form0 Ho2.out (by kernel_rfl) rfl (Uc f) ?_)
  generalize w2.setRow _ _=w3 at *
  refine leaves_cons (f:=154) (args:=#[.pointer (some ⟨w.heap.size+1,0,none⟩)]) (by simp) (by simp [go_sem]) ?_
  refine (IQ ⟨w.heap.size+1,0,none⟩ true _ ?_ ?_).mono ?_
  ·exact bc w3 ⟨w.heap.size+1,0,none⟩ (.bool true) hc3
  ·simp [hz3]
  rintro e u' w'' ⟨rfl,rfl,rfl⟩
  have hW1:=bc w3 ⟨w.heap.size+1,0,none⟩ (.bool true) hc3
  have hW:=bc _ ⟨w.heap.size+1,0,none⟩ (.bool true) hW1
  have HBW:=hid ((HB3.out.setCell (p:=⟨w.heap.size+1,0,none⟩) (by simp) (.bool true)).setCell (p:=⟨w.heap.size+1,0,none⟩) (by simp) (.bool true))
  have HoW:=hid (jf (qx (w3.setCell ⟨w.heap.size+1,0,none⟩ (.bool true)) (w.heap.size+1) 0 (.bool true)) (jf (qx w3 (w.heap.size+1) 0 (.bool true)) Ho3.out (by omega)) (by omega))
  clear hW1 hc3 hz3
  generalize (w3.setCell _ _).setCell _ _=W at *
  obtain ⟨⟨o0,o1,o2,o3,o4,o5,o6,o7,o8,o9⟩,_⟩:=xn HoW.out
  simp [Leaves,settle,results,Tryz.results96,go_sem,hW,o0,o1,o2,o3,o4,o5,o6,o7,o8,o9]
  exact ⟨HBW.out,f,Hf.out,rfl,rfl,rfl,rfl,rfl,rfl,rfl⟩
end
section
theorem Dt (sec non ext body:ByteArray) (w:World) (h:5002 < body.size) (hm:body.size≤maxLen) :
  Calls Tryz.prog 180 #[.string sec,.string non,.string ext,.string body] w fun e w' =>
   e=.returned (.tuple #[strB [],.bool false])∧w'=w:=by
 unfold maxLen at hm
 have i1:¬ (body.size:Int) < 2:=by omega
 have i2:(5002:Int) < (body.size:Int):=by omega
 go_enter Tryz.func180,Tryz.ntmps180
 go_wp2
 go_ret2
 exact ⟨rfl,rfl⟩
def GI:Option (List UInt8)→Value
 | some p=>.tuple #[strB p,.bool true]
 | none=>.tuple #[strB [],.bool false]
theorem Co {sec non ext body:List UInt8} (h2:2≤body.length) (h5:body.length≤5002) (h:Zv sec non ext body=true):qw sec non ext body=some (zw sec non (UQ body)):=by
 have:=Kf sec non ext body
 rw [h,cI] at this
 unfold qw
 rw [aw ⟨h5,h2,this⟩]
 rfl
theorem TN {sec non ext body:List UInt8} (h:Zv sec non ext body=false):qw sec non ext body=none:=by
 have:=Kf sec non ext body
 rw [h] at this
 unfold qw
 rw [aj]
 rintro ⟨_,_,h3⟩
 have h4:(XU sec non ext (zw sec non (UQ body)) == body)=true:=by rw [cI];exact h3
 rw [h4] at this
 cases this
theorem Nv (sec non ext body:List UInt8) (w:World) (h1:sec.length≤1000) (h2:non.length≤1000) (h3:ext.length≤5000) (hm:body.length≤maxLen) :
  Calls Tryz.prog 180 #[strB sec,strB non,strB ext,strB body] w fun e w'=>e=.returned (GI (qw sec non ext body))∧Below w.heap.size w w':=by
 have hz:=jR body
 have hd:∀ l:List UInt8,(⟨l.toArray⟩:ByteArray).data.toList=l:=fun l=>by simp
 by_cases hlo:body.length < 2
 ·refine (Az ⟨sec.toArray⟩ ⟨non.toArray⟩ ⟨ext.toArray⟩ ⟨body.toArray⟩ w (by rw [hz];exact hlo)).mono ?_
  rintro e w' ⟨rfl,rfl⟩
  have:qw sec non ext body=none:=by unfold qw;rw [aj (by omega)]
  exact ⟨by rw [this];rfl,Below.refl _ _⟩
 by_cases hhi:5002 < body.length
 ·refine (Dt ⟨sec.toArray⟩ ⟨non.toArray⟩ ⟨ext.toArray⟩ ⟨body.toArray⟩ w (by rw [hz];exact hhi) (by rw [hz];exact hm)).mono ?_
  rintro e w' ⟨rfl,rfl⟩
  have:qw sec non ext body=none:=by unfold qw;rw [aj (by omega)]
  exact ⟨by rw [this];rfl,Below.refl _ _⟩
 cases ho:Zv sec non ext body with
 | true =>
  refine (CT ⟨sec.toArray⟩ ⟨non.toArray⟩ ⟨ext.toArray⟩ ⟨body.toArray⟩ w (by rw [hz];omega) (by rw [hz];omega) (by rw [jR];exact h1) (by rw [jR];exact h2) (by rw [jR];exact h3) (by simp only [hd];exact ho)).mono ?_
  rintro e w' ⟨rfl,hb⟩
  refine ⟨?_,hb⟩
  rw [Co (by omega) (by omega) ho]
  simp only [hd,GI]
 | false =>
  refine (PV ⟨sec.toArray⟩ ⟨non.toArray⟩ ⟨ext.toArray⟩ ⟨body.toArray⟩ w (by rw [hz];omega) (by rw [hz];omega) (by rw [jR];exact h1) (by rw [jR];exact h2) (by rw [jR];exact h3) (by simp only [hd];exact ho)).mono ?_
  rintro e w' ⟨rfl,hb⟩
  refine ⟨?_,hb⟩
  rw [TN ho]
  rfl
end
end Go.Proofs.YthhpbhpfagoapaaGreat
