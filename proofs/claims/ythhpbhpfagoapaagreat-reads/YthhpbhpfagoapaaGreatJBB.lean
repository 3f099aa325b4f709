import Derived.Test.YthhpbhpfagoapaaGreatXRForm2
import Derived.Defers
import Derived.Recover
import Derived.Laws.Pointers
import Derived.Laws.Tables
import Derived.Laws.Rows
import Derived.Test.YthhpbhpfagoapaaGreatJAY
import Derived.Test.YthhpbhpfagoapaaGreatJAJ
import Derived.Test.YthhpbhpfagoapaaGreatJAT
namespace Go.Proofs.YthhpbhpfagoapaaGreat
set_option linter.unusedVariables false
set_option linter.unusedSimpArgs false
set_option maxRecDepth 100000
set_option maxHeartbeats 16000000
open Go.RowKit
section
abbrev formC (f:FormF):Array Value:=#[.int .i64 (f.foot:Int),.bool f.told,strB f.footer,strB [if f.told=true then 83 else 70],.int .i64 0,.int .i64 0,.int .i64 0,strB f.nonce,strB f.body,strB (qe f)]
abbrev form0:Array Value:=#[.int .i64 0,.bool false,Value.string { data:=#[] },Value.string { data:=#[] },.int .i64 0,.int .i64 0,.int .i64 0,Value.string { data:=#[] },Value.string { data:=#[] },Value.string { data:=#[] }]
theorem KM (f:FormF):(formC f).all (·.oneCell')=true:=by simp [Value.oneCell']
theorem KS (w:World) (g:Nat) (cs:Array Value):w.grownBy (w.setRow g cs) (some g) :=
 ⟨rfl,rfl,rfl,by simp,fun k _ hk=>setRow_other w g k cs (fun e=>hk (by rw [e]))⟩
theorem Pj (file:List UInt8) (B:Nat) (w:World) (hs:file.length≤maxLen) (hB:w.cell? ⟨B,0,none⟩=some (strB file)) :
  Calls Tryz.prog 97 #[.pointer (some ⟨B,0,none⟩)] w (SO file w):=by
 have Hs:=hid hs
 have hBa:=jc (.cells form0 115) hB
 clear hs
 obtain ⟨hb0,hl0,_,ho0⟩:=qg w form0 115
 go_enter Tryz.func97,Tryz.ntmps97
 go_wp2_with fail
 clear hBa hB
 refine (YI file (w.alloc (.cells form0 115)) Hs.out).mono ?_
 generalize w.alloc _=W0 at *
 have HB0:=hid hb0
 have Ho0:=hid ho0
 clear hb0 ho0
 rintro e w1 ⟨hb1,⟨rfl,hn⟩|⟨f,hf,rfl⟩⟩
 ·have HN:=hid hn
  have HB1:=hid (HB0.out.trans (hb1.mono HB0.out.size))
  clear hb1 hn
  go_wp2
  exact ⟨rfl,HB1.out,.inl ⟨rfl,HN.out⟩⟩
 ·have HF:=hid hf
  have HB1:=hid (HB0.out.trans (hb1.mono HB0.out.size))
  have Ho1:=hid (jb hb1 Ho0.out)
  clear hb1 hf
  go_wp2_with (refine wpList_store_row rfl 115 (.tmp 1) (.tmp 3) rfl w.heap.size (formC f) rfl rfl 115 form0 Ho1.out (by kernel_rfl) rfl (KM f) ?_)
  have HoF:=hid (setRow_heap w1 w.heap.size _ (formC f) 115 (0,0) Ho1.out)
  have HBF:=hid (HB1.out.trans (jg (KS w1 w.heap.size (formC f)) (Nat.le_refl _) HB1.out.size))
  generalize w1.setRow _ _=WF at *
  exact bodyPost_ret (v:=formV f) (results_cell_row (P:=Tryz.prog) (p:=1) (ty:=115) rfl _ _ w.heap.size 115 (formC f) (0,0) _ rfl HoF.out Tryz.underlying115 rfl (by kernel_rfl)) rfl ⟨HBF.out,.inr ⟨f,HF.out,rfl⟩⟩
theorem VA (p:Addr) (b:Bool) (u:TypeId) (pv:Value) (older:List PanicEntry) (w:World) (hc:w.cell? p=some (.bool b)) (hz:w.frozen? p=false) :
  CallsD Tryz.prog 154 #[.pointer (some p)] (.panicking ({ v:=.iface u pv,recovered:=false } :: older)) w fun e u' w' =>
   e=.returned (.tuple #[])∧u'=.panicking ({ v:=.iface u pv,recovered:=true } :: older)∧w'=w.setCell p (.bool false):=by
 refine callsD_of_wpS Tryz.func154 rfl fun c₀ cs hu=>?_
 apply wpS_region
 simp [wpOpsS,go_sem,recoverD,hu,Tryz.ntmps154,Exit.thenS,hc,hz,bodyPostS,results,Tryz.results154]
theorem Ir (p:Addr) (b:Bool) (w:World) (hc:w.cell? p=some (.bool b)) (hz:w.frozen? p=false) :
  CallsD Tryz.prog 154 #[.pointer (some p)] .returning w fun e u' w'=>e=.returned (.tuple #[])∧u'=.returning∧w'=w.setCell p (.bool true):=by
 refine callsD_of_wpS Tryz.func154 rfl fun c₀ cs hu=>?_
 apply wpS_region
 simp [wpOpsS,go_sem,recoverD,hu,Tryz.ntmps154,Exit.thenS,hc,hz,bodyPostS,results,Tryz.results154]
 cases c₀
 simp_all
theorem So (file:List UInt8) (B:Nat) (w:World) (hs:file.length≤maxLen) (hB:w.cell? ⟨B,0,none⟩=some (strB file)) :
  Calls Tryz.prog 96 #[.func (.func 97) #[] #[.pointer (some ⟨B,0,none⟩)]] w fun e w'=>Below w.heap.size w w' ∧
   ((zh file=none∧e=.returned (.tuple #[.agg form0,.bool false]))∨∃ f,zh file=some f∧e=.returned (.tuple #[formV f,.bool true])):=by
 have hmf:∀ (fn:Fn) (first cap:Array Value) (w:World),(Instr.makeFunc fn first cap).run Tryz.prog w=.ok (.func fn first cap) w:=fun _ _ _ _=>rfl
 have Hs:=hid hs
 have hBa:=jc (.cells #[.bool false] 4) (jc (.cells form0 115) hB)
 obtain ⟨hb0,hl0,ho0,hk0⟩:=JQ w form0 115 #[.bool false] 4
 have HBa:=hid hBa
 clear hs hB hBa
 go_enter_defers Tryz.func96,Tryz.ntmps96
 go_wp2_with fail
 refine (Pj file B ((w.alloc (.cells form0 115)).alloc (.cells #[.bool false] 4)) Hs.out HBa.out).mono ?_
 clear HBa
 generalize (w.alloc _).alloc _=W0 at *
 have HB0:=hid hb0
 have Ho0:=hid ho0
 have Hk0:=hid hk0
 clear hb0 ho0 hk0
 rintro e w2 ⟨hb2,ho⟩
 have HB2:=hid (HB0.out.trans (hb2.mono HB0.out.size))
 have Ho2:=hid (jb hb2 Ho0.out)
 have Hk2:=hid (jb hb2 Hk0.out)
 have hc2:w2.cell? ⟨w.heap.size+1,0,none⟩=some (.bool false):=by rw [jd Hk2.out];rfl
 have hz2:w2.frozen? ⟨w.heap.size+1,0,none⟩=false:=frozen_of_row w2 _ _ _ _ Hk2.out
 rcases ho with ⟨rfl,hn⟩|⟨f,hf,rfl⟩
 ·have Hn:=hid hn
  clear hn hb2
  go_wp2
  refine leaves_cons (f:=154) (args:=#[.pointer (some ⟨w.heap.size+1,0,none⟩)]) (by simp) (by simp [go_sem]) ?_
  refine (VA ⟨w.heap.size+1,0,none⟩ false 9 _ [] _ hc2 hz2).mono ?_
  rintro e u' w'' ⟨rfl,rfl,rfl⟩
  have hW:=World.cell?_setCell_same w2 ⟨w.heap.size+1,0,none⟩ (.bool false) hc2
  have HBW:=hid (HB2.out.setCell (p:=⟨w.heap.size+1,0,none⟩) (by simp) (.bool false))
  have HoW:=hid (jf (qn w2 (w.heap.size+1) 0 (.bool false)) Ho2.out (by omega))
  generalize w2.setCell _ _=W at *
  obtain ⟨⟨o0,o1,o2,o3,o4,o5,o6,o7,o8,o9⟩,_⟩:=qZ HoW.out
  simp [Leaves,settle,results,Tryz.results96,go_sem,hW,o0,o1,o2,o3,o4,o5,o6,o7,o8,o9]
  exact ⟨HBW.out,Hn.out⟩
 ·have Hf:=hid hf
  have hg3:=KS w2 w.heap.size (formC f)
  have Hk3:=hid (jf hg3 Hk2.out (by omega))
  have Ho3:=hid (setRow_heap w2 w.heap.size _ (formC f) 115 (0,0) Ho2.out)
  have HB3:=hid (HB2.out.trans (jg hg3 (Nat.le_refl _) HB2.out.size))
  have hc3:(w2.setRow w.heap.size (formC f)).cell? ⟨w.heap.size+1,0,none⟩=some (.bool false):=by rw [jd Hk3.out];rfl
  have hz3:(w2.setRow w.heap.size (formC f)).frozen? ⟨w.heap.size+1,0,none⟩=false:=frozen_of_row _ _ _ _ _ Hk3.out
  clear hf hb2 hg3 hc2 hz2
  go_wp2_with (refine wpList_store_row rfl 115 (.tmp 2) (.tmp 6) rfl w.heap.size (formC f) rfl rfl 115 form0 Ho2.out (by kernel_rfl) rfl (KM f) ?_)
  generalize w2.setRow _ _=w3 at *
  refine leaves_cons (f:=154) (args:=#[.pointer (some ⟨w.heap.size+1,0,none⟩)]) (by simp) (by simp [go_sem]) ?_
  refine (Ir ⟨w.heap.size+1,0,none⟩ true _ ?_ ?_).mono ?_
  ·exact World.cell?_setCell_same w3 ⟨w.heap.size+1,0,none⟩ (.bool true) hc3
  ·simp [hz3]
  rintro e u' w'' ⟨rfl,rfl,rfl⟩
  have hW1:=World.cell?_setCell_same w3 ⟨w.heap.size+1,0,none⟩ (.bool true) hc3
  have hW:=World.cell?_setCell_same _ ⟨w.heap.size+1,0,none⟩ (.bool true) hW1
  have HBW:=hid ((HB3.out.setCell (p:=⟨w.heap.size+1,0,none⟩) (by simp) (.bool true)).setCell (p:=⟨w.heap.size+1,0,none⟩) (by simp) (.bool true))
  have HoW:=hid (jf (qn (w3.setCell ⟨w.heap.size+1,0,none⟩ (.bool true)) (w.heap.size+1) 0 (.bool true)) (jf (qn w3 (w.heap.size+1) 0 (.bool true)) Ho3.out (by omega)) (by omega))
  clear hW1 hc3 hz3
  generalize (w3.setCell _ _).setCell _ _=W at *
  obtain ⟨⟨o0,o1,o2,o3,o4,o5,o6,o7,o8,o9⟩,_⟩:=qZ HoW.out
  simp [Leaves,settle,results,Tryz.results96,go_sem,hW,o0,o1,o2,o3,o4,o5,o6,o7,o8,o9]
  exact ⟨HBW.out,f,Hf.out,rfl,rfl,rfl,rfl,rfl,rfl,rfl⟩
end
section
theorem MX (st:Option (List UInt8)):qd 2 st=([],none)∨∃ a b r,st=some (a :: b :: r)∧qd 2 st=([a,b],some r):=by
 rcases st with _|l
 ·exact .inl rfl
 rcases l with _|⟨a,_|⟨b,r⟩⟩
 ·exact .inl (Qk (.inr (by simp)))
 ·exact .inl (Qk (.inr (by simp)))
 ·refine .inr ⟨a,b,r,rfl,?_⟩
  rw [zP (by decide) (by simp;omega)]
  rfl
theorem SG (a b:UInt8):wrap64 (wrap64 (((⟨#[a,b]⟩:ByteArray)[0]'(by simp [ByteArray.size])).toNat:Int)+wrap64 (256*wrap64 (((⟨#[a,b]⟩:ByteArray)[1]'(by simp [ByteArray.size])).toNat:Int)))=((Qe [a,b]:Nat):Int):=by
 have h1:=a.toNat_lt
 have h2:=b.toNat_lt
 show wrap64 (wrap64 (a.toNat:Int)+wrap64 (256*wrap64 (b.toNat:Int)))=((a.toNat+256*b.toNat:Nat):Int)
 generalize a.toNat=x at *
 generalize b.toNat=y at *
 simp only [wrap64]
 omega
theorem NY (p:Nat) (s:List UInt8) (st:Option (List UInt8)) (w:World) (hs:s.length≤maxLen) (hp:jS w p s st) :
  Calls Tryz.prog 148 #[.pointer (some ⟨p,0,none⟩)] w fun e w'=>e=.returned (.int .i64 ((xu st).1:Int))∧jS w' p s (xu st).2∧w.grownBy w' (some p):=by
 have Hp:=hid hp
 clear hp
 go_enter Tryz.func148,Tryz.ntmps148
 go_wp2_with fail
 refine (Ql p s st 2 _ hs (by decide) (by decide) Hp.out).mono ?_
 rintro e w1 ⟨rfl,hsp1,hg1⟩
 have hb1:=Ko hsp1
 have Hsp1:=hid hsp1
 have HG1:=hid hg1
 have HT:Hid (xu st=(Qe (qd 2 st).1,(qd 2 st).2)):=rfl
 clear hsp1 hg1
 rcases MX st with ht|⟨a,b,r,rfl,ht⟩
 ·rw [ht] at hb1 Hsp1 HT ⊢
  simp only [JN] at hb1
  clear ht
  go_wp2
  go_ret
  rw [HT.out]
  exact ⟨rfl,Hsp1.out,HG1.out⟩
 ·rw [ht] at hb1 Hsp1 HT ⊢
  simp only [JN] at hb1
  clear ht
  have ha:=a.toNat_lt
  have hb:=b.toNat_lt
  go_wp2_with fail
  go_quiet (fail)
  go_wp2
  go_ret
  rw [HT.out]
  exact ⟨xe (SG a b),Hsp1.out,zU HG1.out nq⟩
theorem qi {w w':World} {p B:Nat} {o:Obj} (hg:w.grownBy w' (some p)) (h:w.heap[B]?=some o) (hne:B≠p):w'.heap[B]?=some o:=by
 have hlt:=(Array.getElem?_eq_some_iff.1 h).1
 rw [hg.block B hlt (by intro e;injection e with e;exact hne e)]
 exact h
theorem Jt {w:World} {q:Nat} {o:Obj} (o':Obj) (h:w.heap[q]?=some o):(w.alloc o').heap[q]?=some o:=by
 have hlt:=(Array.getElem?_eq_some_iff.1 h).1
 rw [(World.grownBy_alloc w o' none).block q hlt (by simp)]
 exact h
theorem zS (w:World) (q i:Nat) (v:Value):w.grownBy (w.setCell ⟨q,i,none⟩ v) (some q) :=
 ⟨rfl,rfl,rfl,by simp,fun k _ hk=>heap_setCell_other w ⟨q,i,none⟩ k v (fun e=>hk (by simp [e]))⟩
theorem Qy (w:World) (q:Nat) (cs:Array Value):w.grownBy (w.setRow q cs) (some q) :=
 ⟨rfl,rfl,rfl,by simp,fun k _ hk=>setRow_other w q k cs (fun e=>hk (by rw [e]))⟩
theorem xZ {w w' w2:World} {p q:Nat} (h:w.grownBy w' (some p)) (h2:w'.grownBy w2 (some q)) (hq:w.heap.size≤q):w.grownBy w2 (some p) :=
 ⟨h2.os.trans h.os,h2.tape.trans h.tape,h2.output.trans h.output,Nat.le_trans h.size h2.size,fun i hi hne=>(h2.block i (Nat.lt_of_lt_of_le hi h.size) (by intro e;injection e with e;omega)).trans (h.block i hi hne)⟩
theorem JV {w:World} {p:Nat} {s:List UInt8} {st:Option (List UInt8)} (h:jS w p s st):p < w.heap.size:=by
 obtain ⟨_,_,h,_⟩:=h
 exact (Array.getElem?_eq_some_iff.1 h).1
theorem xl {w w':World} {p q:Nat} {s:List UInt8} {st:Option (List UInt8)} (h:jS w p s st) (hg:w.grownBy w' (some q)) (hq:p≠q):jS w' p s st:=by
 obtain ⟨at_,bad,hrow,hat,hst⟩:=h
 exact ⟨at_,bad,qi hg hrow hq,hat,hst⟩
theorem Kr (p:Nat) (s:List UInt8) (st:Option (List UInt8)) (w:World) (hs:s.length≤maxLen) (hp:jS w p s st) :
  Calls Tryz.prog 150 #[.pointer (some ⟨p,0,none⟩)] w fun e w'=>e=.returned (.agg #[strB (qm st).1.1,strB (qm st).1.2])∧jS w' p s (qm st).2∧w.grownBy w' (some p):=by
 have hpw:=JV hp
 obtain ⟨hb0,hl0,_,ho0⟩:=qg w #[Value.string { data:=#[] },Value.string { data:=#[] }] 167
 have HS0:=hid (zq hp hpw (.cells #[Value.string { data:=#[] },Value.string { data:=#[] }] 167))
 have HR:Hid (qm st=(((qd 4 (xu st).2).1,(qd ((xu st).1:Int) (qd 4 (xu st).2).2).1),if (xu st).1 < 2 then none else (qd ((xu st).1:Int) (qd 4 (xu st).2).2).2)):=rfl
 have hn:=Gy (qd 2 st).1
 have hn2:(xu st).1≤65535:=hn
 have HA0:=hid (World.grownBy_alloc w (.cells #[Value.string { data:=#[] },Value.string { data:=#[] }] 167) (some p))
 have Ho0:=hid ho0
 clear hp hb0 ho0 hn
 go_enter Tryz.func150,Tryz.ntmps150
 go_wp2_with fail
 generalize w.alloc _=W0 at *
 refine (NY p s st W0 hs HS0.out).mono ?_
 rintro e w1 ⟨rfl,hsp1,hg1⟩
 have HG1:=hid (ja HA0.out hg1)
 have Ho1:=hid (qi hg1 Ho0.out (by omega))
 have HS1:=hid hsp1
 clear hg1 hsp1 HS0
 generalize xu st=x at *
 obtain ⟨n,st1⟩:=x
 simp only at HR hn2 HS1 ⊢
 go_wp2_with fail
 refine (Ql p s st1 4 w1 hs (by decide) (by decide) HS1.out).mono ?_
 rintro e w2 ⟨rfl,hsp2,hg2⟩
 have HG2:=hid (ja HG1.out hg2)
 have Ho2:=hid (qi hg2 Ho1.out (by omega))
 have HS2:=hid hsp2
 clear hg2 hsp2 HS1 Ho1 HG1 Ho0
 generalize qd 4 st1=x at *
 obtain ⟨non,st2⟩:=x
 simp only at HR HS2 ⊢
 go_wp2_with fail
 obtain ⟨hb3,_,_,hB3⟩:=qg w2 #[Value.string { data:=non.toArray },Value.string { data:=#[] }] 167
 have hpB:=JV HS2.out
 have hwB:w.heap.size < w2.heap.size:=(Array.getElem?_eq_some_iff.1 Ho2.out).1
 have HS3:=hid (zq HS2.out hpB (.cells #[Value.string { data:=non.toArray },Value.string { data:=#[] }] 167))
 have Ho3:=hid (Jt (.cells #[Value.string { data:=non.toArray },Value.string { data:=#[] }] 167) Ho2.out)
 have HG3:=hid (xS HG2.out (.cells #[Value.string { data:=non.toArray },Value.string { data:=#[] }] 167))
 have HB3:=hid hB3
 clear hb3 hB3 HS2 Ho2
 generalize hW:w2.alloc _=W2 at *
 clear hW
 generalize w2.heap.size=B at *
 refine (Ql p s st2 (n:Int) W2 hs (by omega) (by omega) HS3.out).mono ?_
 rintro e w3 ⟨rfl,hsp4,hg4⟩
 have HG4:=hid (ja HG3.out hg4)
 have Ho4:=hid (qi hg4 Ho3.out (by omega))
 have HB4:=hid (qi hg4 HB3.out (by omega))
 have HS4:=hid hsp4
 clear hg4 hsp4 HG3 Ho3 HB3 HS3
 generalize qd (n:Int) st2=x at *
 obtain ⟨body,st3⟩:=x
 simp only at HR HS4 ⊢
 have hB0:w3.cell? ⟨B,1,none⟩=some (Value.string { data:=#[] }):=by rw [cell_of_row w3 B 1 _ _ (0,0) HB4.out];rfl
 have hz0:=frozen_of_row w3 B 1 _ _ HB4.out
 go_upto_region 4 with fail
 clear hB0 hz0
 have HB5:=hid (heap_setCell_same w3 B 1 _ _ (strB body) HB4.out)
 have HS5:=hid (Ui HS4.out (q:=⟨B,1,none⟩) (by show p≠B;omega) (strB body))
 have Ho5:=hid (qi (zS w3 B 1 (strB body)) Ho4.out (by omega))
 have HG5:=hid (xZ HG4.out (zS w3 B 1 (strB body)) (by omega))
 clear HB4 HS4 Ho4 HG4
 generalize w3.setCell _ _=w5 at *
 obtain ⟨at_,bad,hrow,hat,hst⟩:=HS5.out
 obtain ⟨⟨c0,c1,c2⟩,cf⟩:=xi hrow
 have f2:=cf 2
 have Hrow:=hid hrow
 clear hrow cf c0 c1
 cases bad with
 | true =>
  go_upto_region 5 with fail
  obtain ⟨hb1,hb2⟩:=Xq (v:=.bool true) Hrow.out
  have HSX:Hid (jS (w5.setCell ⟨p,2,none⟩ (.bool true)) p s (qm st).2):=⟨at_,true,hb1,hat,by rw [HR.out];rw [hst];simp⟩
  have Ho6:=hid (qi hb2 Ho5.out (by omega))
  have HB6:=hid (qi hb2 HB5.out (by omega))
  have HG6:=hid (ja HG5.out hb2)
  clear hb1 hb2 c2 f2
  generalize w5.setCell _ _=w6 at *
  go_wp2_with (first|(refine wpList_load_row rfl 167 (.tmp 4) rfl B rfl 167 #[strB non,strB body] (0,0) _ HB6.out Tryz.underlying167 rfl (by kernel_rfl) ?_)|(refine wpList_store_row rfl 167 (.tmp 2) (.tmp 25) rfl w.heap.size #[strB non,strB body] rfl rfl 167 #[Value.string { data:=#[] },Value.string { data:=#[] }] Ho6.out (by kernel_rfl) rfl (by simp [Value.oneCell']) ?_))
  have HR1:Hid ((qm st).1=(non,body)):=by show _=_;rw [HR.out]
  rw [HR1.out]
  have Ho7:=hid (setRow_heap w6 w.heap.size _ #[strB non,strB body] 167 (0,0) Ho6.out)
  have HS7:=hid (xl HSX.out (Qy w6 w.heap.size #[strB non,strB body]) (by omega))
  have HG7:=hid (xZ HG6.out (Qy w6 w.heap.size #[strB non,strB body]) (Nat.le_refl _))
  generalize w6.setRow _ _=w7 at *
  exact bodyPost_ret (v:=.agg #[strB non,strB body]) (results_cell_row (P:=Tryz.prog) (p:=2) (ty:=167) rfl _ _ w.heap.size 167 #[strB non,strB body] (0,0) _ rfl Ho7.out Tryz.underlying167 rfl (by kernel_rfl)) rfl ⟨rfl,HS7.out,HG7.out⟩
 | false =>
  by_cases hlt:n < 2
  ·have hni:(n:Int) < 2:=by omega
   have hd:decide ((n:Int) < 2)=true:=decide_eq_true hni
   go_upto_region 5 with fail
   obtain ⟨hb1,hb2⟩:=Xq (v:=.bool true) Hrow.out
   have HSX:Hid (jS (w5.setCell ⟨p,2,none⟩ (.bool true)) p s (qm st).2):=⟨at_,true,hb1,hat,by rw [HR.out];simp [hlt]⟩
   have Ho6:=hid (qi hb2 Ho5.out (by omega))
   have HB6:=hid (qi hb2 HB5.out (by omega))
   have HG6:=hid (ja HG5.out hb2)
   clear hb1 hb2 c2 f2
   generalize w5.setCell _ _=w6 at *
   go_wp2_with (first|(refine wpList_load_row rfl 167 (.tmp 4) rfl B rfl 167 #[strB non,strB body] (0,0) _ HB6.out Tryz.underlying167 rfl (by kernel_rfl) ?_)|(refine wpList_store_row rfl 167 (.tmp 2) (.tmp 25) rfl w.heap.size #[strB non,strB body] rfl rfl 167 #[Value.string { data:=#[] },Value.string { data:=#[] }] Ho6.out (by kernel_rfl) rfl (by simp [Value.oneCell']) ?_))
   have HR1:Hid ((qm st).1=(non,body)):=by show _=_;rw [HR.out]
   rw [HR1.out]
   have Ho7:=hid (setRow_heap w6 w.heap.size _ #[strB non,strB body] 167 (0,0) Ho6.out)
   have HS7:=hid (xl HSX.out (Qy w6 w.heap.size #[strB non,strB body]) (by omega))
   have HG7:=hid (xZ HG6.out (Qy w6 w.heap.size #[strB non,strB body]) (Nat.le_refl _))
   generalize w6.setRow _ _=w7 at *
   exact bodyPost_ret (v:=.agg #[strB non,strB body]) (results_cell_row (P:=Tryz.prog) (p:=2) (ty:=167) rfl _ _ w.heap.size 167 #[strB non,strB body] (0,0) _ rfl Ho7.out Tryz.underlying167 rfl (by kernel_rfl)) rfl ⟨rfl,HS7.out,HG7.out⟩
  ·have hni:¬ (n:Int) < 2:=by omega
   have hd:decide ((n:Int) < 2)=false:=decide_eq_false hni
   go_upto_region 5 with fail
   obtain ⟨hb1,hb2⟩:=Xq (v:=.bool false) Hrow.out
   have HSX:Hid (jS (w5.setCell ⟨p,2,none⟩ (.bool false)) p s (qm st).2):=⟨at_,false,hb1,hat,by rw [HR.out];rw [hst];simp [hlt]⟩
   have Ho6:=hid (qi hb2 Ho5.out (by omega))
   have HB6:=hid (qi hb2 HB5.out (by omega))
   have HG6:=hid (ja HG5.out hb2)
   clear hb1 hb2 c2 f2
   generalize w5.setCell _ _=w6 at *
   go_wp2_with (first|(refine wpList_load_row rfl 167 (.tmp 4) rfl B rfl 167 #[strB non,strB body] (0,0) _ HB6.out Tryz.underlying167 rfl (by kernel_rfl) ?_)|(refine wpList_store_row rfl 167 (.tmp 2) (.tmp 25) rfl w.heap.size #[strB non,strB body] rfl rfl 167 #[Value.string { data:=#[] },Value.string { data:=#[] }] Ho6.out (by kernel_rfl) rfl (by simp [Value.oneCell']) ?_))
   have HR1:Hid ((qm st).1=(non,body)):=by show _=_;rw [HR.out]
   rw [HR1.out]
   have Ho7:=hid (setRow_heap w6 w.heap.size _ #[strB non,strB body] 167 (0,0) Ho6.out)
   have HS7:=hid (xl HSX.out (Qy w6 w.heap.size #[strB non,strB body]) (by omega))
   have HG7:=hid (xZ HG6.out (Qy w6 w.heap.size #[strB non,strB body]) (Nat.le_refl _))
   generalize w6.setRow _ _=w7 at *
   exact bodyPost_ret (v:=.agg #[strB non,strB body]) (results_cell_row (P:=Tryz.prog) (p:=2) (ty:=167) rfl _ _ w.heap.size 167 #[strB non,strB body] (0,0) _ rfl Ho7.out Tryz.underlying167 rfl (by kernel_rfl)) rfl ⟨rfl,HS7.out,HG7.out⟩
end
section
abbrev fileC (f:FormF):Array Value:=#[.bool f.told,.int .i64 (f.foot:Int),strB f.parts,strB f.footer,strB f.nonce,strB f.body]
abbrev file0:Array Value:=#[.bool false,.int .i64 0,Value.string { data:=#[] },Value.string { data:=#[] },Value.string { data:=#[] },Value.string { data:=#[] }]
def EJ (file:List UInt8) (w:World) (e:Ending) (w':World):Prop :=
 Below w.heap.size w w'∧((zR file=none∧∃ C:Array Value,(C.size=6∧C.all (·.oneCell')=true)∧e=.returned (.tuple #[.agg C,.bool false]))∨∃ f,zR file=some f∧e=.returned (.tuple #[.agg (fileC f),.bool true]))
theorem ql {P:Program} {fn:Func} {p q:Tmp} {ty:TypeId} (h:fn.results=#[.cell p ty,.tmp q]) (tmps:Array Value) (w:World) (g:Nat) (cs:Array Value) (x:Value)
  (hp:tmps.getD p undef=.pointer (some ⟨g,0,none⟩)) (hq:tmps.getD q undef=x) (hl:(loadVar ty ⟨g,0,none⟩).run P w=.ok (.agg cs) w) :
  (results fn tmps).run P w=.ok (.tuple #[.agg cs,x]) w:=by
 have hp':tmps[p]?.getD undef=.pointer (some ⟨g,0,none⟩):=by simpa using hp
 have hq':tmps[q]?.getD undef=x:=by simpa using hq
 simp [results,h,hp',hq',asAddr,hl]
theorem EG (file:List UInt8) (w:World) (hs:file.length≤maxLen) (hbad:65000 < file.length∨file.length < 8∨file.take 2≠[67,70]∨file.drop (file.length - 2)≠[67,70]∨(file.getD 2 0≠69∧file.getD 2 0≠79)∨(file.getD 3 0).toNat < 1∨9 < (file.getD 3 0).toNat) :
  Calls Tryz.prog 88 #[strB file] w (EJ file w):=by
 have Hbad:=hid hbad
 clear hbad
 obtain ⟨hb0,hl0,_,ho0⟩:=qg w file0 169
 have HB0:=hid hb0
 have Ho0:=hid ho0
 clear hb0 ho0
 have HF:Hid ((65000 < file.length∨file.length < 8∨file.take 2≠[67,70]∨file.drop (file.length - 2)≠[67,70]∨(file.getD 2 0≠69∧file.getD 2 0≠79)∨(file.getD 3 0).toNat < 1∨9 < (file.getD 3 0).toNat)→zR file=none):=fun h=>by
  unfold zR
  rw [if_pos h]
 by_cases h1:65000 < file.length
 ·have HN:Hid (zR file=none):=HF.out (.inl h1)
  have h1i:(65000:Int) < (file.length:Int):=by omega
  clear h1
  go_enter Tryz.func88,Tryz.ntmps88
  go_wp2
  exact bodyPost_ret (v:=.tuple #[.agg file0,.bool false]) (ql (p:=2) (q:=3) rfl _ _ _ _ _ rfl rfl (run_loadVar_row (P:=Tryz.prog) _ w.heap.size 169 169 file0 (0,0) _ Ho0.out Tryz.underlying169 rfl (by kernel_rfl))) rfl ⟨HB0.out,.inl ⟨HN.out,_,⟨by rfl,by simp [Value.oneCell']⟩,rfl⟩⟩
 have h1d:decide ((65000:Int) < (file.length:Int))=false:=decide_eq_false (by omega)
 have h1i:(file.length:Int)≤65000:=by omega
 by_cases h2:file.length < 8
 ·have HN:Hid (zR file=none):=HF.out (.inr (.inl h2))
  have h2i:(file.length:Int) < 8:=by omega
  clear h1 h2
  go_enter Tryz.func88,Tryz.ntmps88
  go_wp2
  exact bodyPost_ret (v:=.tuple #[.agg file0,.bool false]) (ql (p:=2) (q:=3) rfl _ _ _ _ _ rfl rfl (run_loadVar_row (P:=Tryz.prog) _ w.heap.size 169 169 file0 (0,0) _ Ho0.out Tryz.underlying169 rfl (by kernel_rfl))) rfl ⟨HB0.out,.inl ⟨HN.out,_,⟨by rfl,by simp [Value.oneCell']⟩,rfl⟩⟩
 have h2d:decide ((file.length:Int) < 8)=false:=decide_eq_false (by omega)
 have h2i:(8:Int)≤(file.length:Int):=by omega
 have e3:((⟨file.toArray⟩:ByteArray).extract 0 2).toList=file.take 2:=by rw [ByteArray.toList_eq];simp
 have e4:((⟨file.toArray⟩:ByteArray).extract (file.length - 2) file.length).toList=file.drop (file.length - 2):=by rw [ByteArray.toList_eq];simp;rw [List.take_of_length_le (by simp)]
 by_cases h3:file.take 2=[67,70]
 case neg =>
  have HN:Hid (zR file=none):=HF.out (.inr (.inr (.inl h3)))
  have h3d:(((⟨file.toArray⟩:ByteArray).extract 0 2).toList == [67,70])=false:=by rw [e3];simpa using h3
  clear h1 h2 h3 e3 e4
  go_enter Tryz.func88,Tryz.ntmps88
  go_wp2
  exact bodyPost_ret (v:=.tuple #[.agg file0,.bool false]) (ql (p:=2) (q:=3) rfl _ _ _ _ _ rfl rfl (run_loadVar_row (P:=Tryz.prog) _ w.heap.size 169 169 file0 (0,0) _ Ho0.out Tryz.underlying169 rfl (by kernel_rfl))) rfl ⟨HB0.out,.inl ⟨HN.out,_,⟨by rfl,by simp [Value.oneCell']⟩,rfl⟩⟩
 have h3d:(((⟨file.toArray⟩:ByteArray).extract 0 2).toList == [67,70])=true:=by rw [e3];simpa using h3
 by_cases h4:file.drop (file.length - 2)=[67,70]
 case neg =>
  have HN:Hid (zR file=none):=HF.out (.inr (.inr (.inr (.inl h4))))
  have h4d:(((⟨file.toArray⟩:ByteArray).extract (file.length - 2) file.length).toList == [67,70])=false:=by rw [e4];simpa using h4
  clear h1 h2 h3 h4 e3 e4
  go_enter Tryz.func88,Tryz.ntmps88
  go_wp2
  exact bodyPost_ret (v:=.tuple #[.agg file0,.bool false]) (ql (p:=2) (q:=3) rfl _ _ _ _ _ rfl rfl (run_loadVar_row (P:=Tryz.prog) _ w.heap.size 169 169 file0 (0,0) _ Ho0.out Tryz.underlying169 rfl (by kernel_rfl))) rfl ⟨HB0.out,.inl ⟨HN.out,_,⟨by rfl,by simp [Value.oneCell']⟩,rfl⟩⟩
 have h4d:(((⟨file.toArray⟩:ByteArray).extract (file.length - 2) file.length).toList == [67,70])=true:=by rw [e4];simpa using h4
 have hl2:2 < (⟨file.toArray⟩:ByteArray).size:=by simp [ByteArray.size];omega
 have hl3:3 < (⟨file.toArray⟩:ByteArray).size:=by simp [ByteArray.size];omega
 obtain ⟨b2,hb2⟩:∃ b,file[2]?=some b:=⟨file[2],List.getElem?_eq_getElem (by omega)⟩
 obtain ⟨b3,hb3⟩:∃ b,file[3]?=some b:=⟨file[3],List.getElem?_eq_getElem (by omega)⟩
 have g2:file.getD 2 0=b2:=by simp [List.getD,hb2]
 have g3:file.getD 3 0=b3:=by simp [List.getD,hb3]
 have i2:((⟨file.toArray⟩:ByteArray)[2]'hl2).toNat=b2.toNat:=by
  have:=(List.getElem?_eq_some_iff.1 hb2).2
  rw [← this];rfl
 have i3:((⟨file.toArray⟩:ByteArray)[3]'hl3).toNat=b3.toNat:=by
  have:=(List.getElem?_eq_some_iff.1 hb3).2
  rw [← this];rfl
 have Hg2:=hid g2
 have Hg3:=hid g3
 have H1:=hid h1
 have H2:=hid h2
 have H3:=hid h3
 have H4:=hid h4
 clear hb2 hb3 e3 e4 h1 h2 h3 h4 g2 g3
 by_cases h5:b2=69∨b2=79
 case neg =>
  have HN:Hid (zR file=none):=HF.out (.inr (.inr (.inr (.inr (.inl (by rw [Hg2.out];exact ⟨fun h=>h5 (.inl h),fun h=>h5 (.inr h)⟩))))))
  have h5a:((b2.toNat:Int) != 69)=true:=by
   rw [bne_iff_ne];intro h;exact h5 (.inl (UInt8.toNat.inj (by show b2.toNat=69;omega)))
  have h5b:((b2.toNat:Int) != 79)=true:=by
   rw [bne_iff_ne];intro h;exact h5 (.inr (UInt8.toNat.inj (by show b2.toNat=79;omega)))
  clear h5
  go_enter Tryz.func88,Tryz.ntmps88
  go_wp2
  exact bodyPost_ret (v:=.tuple #[.agg file0,.bool false]) (ql (p:=2) (q:=3) rfl _ _ _ _ _ rfl rfl (run_loadVar_row (P:=Tryz.prog) _ w.heap.size 169 169 file0 (0,0) _ Ho0.out Tryz.underlying169 rfl (by kernel_rfl))) rfl ⟨HB0.out,.inl ⟨HN.out,_,⟨by rfl,by simp [Value.oneCell']⟩,rfl⟩⟩
 have h5a:(b2=69∧((b2.toNat:Int) != 69)=false∧((b2.toNat:Int) == 79)=false)∨(b2=79∧((b2.toNat:Int) != 69)=true∧((b2.toNat:Int) != 79)=false∧((b2.toNat:Int) == 79)=true):=by
  rcases h5 with rfl|rfl
  ·exact .inl ⟨rfl,rfl,rfl⟩
  ·exact .inr ⟨rfl,rfl,rfl,rfl⟩
 clear h5
 by_cases h6:b3.toNat < 1
 ·have HN:Hid (zR file=none):=HF.out (.inr (.inr (.inr (.inr (.inr (.inl (by rw [Hg3.out];exact h6)))))))
  have h6d:decide ((b3.toNat:Int) < 1)=true:=decide_eq_true (by omega)
  clear h6
  rcases h5a with ⟨_,h5b,_⟩|⟨_,h5b,h5c,_⟩
  ·go_enter Tryz.func88,Tryz.ntmps88
   go_wp2
   exact bodyPost_ret (v:=.tuple #[.agg file0,.bool false]) (ql (p:=2) (q:=3) rfl _ _ _ _ _ rfl rfl (run_loadVar_row (P:=Tryz.prog) _ w.heap.size 169 169 file0 (0,0) _ Ho0.out Tryz.underlying169 rfl (by kernel_rfl))) rfl ⟨HB0.out,.inl ⟨HN.out,_,⟨by rfl,by simp [Value.oneCell']⟩,rfl⟩⟩
  ·go_enter Tryz.func88,Tryz.ntmps88
   go_wp2
   exact bodyPost_ret (v:=.tuple #[.agg file0,.bool false]) (ql (p:=2) (q:=3) rfl _ _ _ _ _ rfl rfl (run_loadVar_row (P:=Tryz.prog) _ w.heap.size 169 169 file0 (0,0) _ Ho0.out Tryz.underlying169 rfl (by kernel_rfl))) rfl ⟨HB0.out,.inl ⟨HN.out,_,⟨by rfl,by simp [Value.oneCell']⟩,rfl⟩⟩
 have h6d:decide ((b3.toNat:Int) < 1)=false:=decide_eq_false (by omega)
 by_cases h7:9 < b3.toNat
 ·have HN:Hid (zR file=none):=HF.out (.inr (.inr (.inr (.inr (.inr (.inr (by rw [Hg3.out];exact h7)))))))
  have h7d:decide ((9:Int) < (b3.toNat:Int))=true:=decide_eq_true (by omega)
  clear h6 h7
  rcases h5a with ⟨_,h5b,_⟩|⟨_,h5b,h5c,_⟩
  ·go_enter Tryz.func88,Tryz.ntmps88
   go_wp2
   exact bodyPost_ret (v:=.tuple #[.agg file0,.bool false]) (ql (p:=2) (q:=3) rfl _ _ _ _ _ rfl rfl (run_loadVar_row (P:=Tryz.prog) _ w.heap.size 169 169 file0 (0,0) _ Ho0.out Tryz.underlying169 rfl (by kernel_rfl))) rfl ⟨HB0.out,.inl ⟨HN.out,_,⟨by rfl,by simp [Value.oneCell']⟩,rfl⟩⟩
  ·go_enter Tryz.func88,Tryz.ntmps88
   go_wp2
   exact bodyPost_ret (v:=.tuple #[.agg file0,.bool false]) (ql (p:=2) (q:=3) rfl _ _ _ _ _ rfl rfl (run_loadVar_row (P:=Tryz.prog) _ w.heap.size 169 169 file0 (0,0) _ Ho0.out Tryz.underlying169 rfl (by kernel_rfl))) rfl ⟨HB0.out,.inl ⟨HN.out,_,⟨by rfl,by simp [Value.oneCell']⟩,rfl⟩⟩
 have h7d:decide ((9:Int) < (b3.toNat:Int))=false:=decide_eq_false (by omega)
 exfalso
 rcases Hbad.out with h|h|h|h|⟨h,h'⟩|h|h
 ·exact H1.out h
 ·exact H2.out h
 ·exact h H3.out
 ·exact h H4.out
 ·rw [Hg2.out] at h h'
  rcases h5a with ⟨h5,_⟩|⟨h5,_⟩
  ·exact h h5
  ·exact h' h5
 ·rw [Hg3.out] at h
  omega
 ·rw [Hg3.out] at h
  omega
end
end Go.Proofs.YthhpbhpfagoapaaGreat
