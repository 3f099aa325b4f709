import Derived.Test.YthhpbhpfagoapaaGreatLFound
import Derived.Test.YthhpbhpfagoapaaGreatJBA
import Derived.Test.YthhpbhpfagoapaaGreatJAX
import Derived.Test.YthhpbhpfagoapaaGreatJAJ
import Derived.Test.YthhpbhpfagoapaaGreatJAK
import Derived.Test.YthhpbhpfagoapaaGreatWTab
import Derived.Test.YthhpbhpfagoapaaGreatRPage
import Derived.Test.YthhpbhpfagoapaaGreatTk
import Derived.Test.YthhpbhpfagoapaaGreatJAW
import Derived.Test.YthhpbhpfagoapaaGreatJAR
namespace Go.Proofs.YthhpbhpfagoapaaGreat
set_option linter.unusedVariables false
set_option linter.unusedSimpArgs false
set_option maxRecDepth 100000
set_option maxHeartbeats 16000000
open Go.RowKit
section
theorem Xw {F:Nat→FoundB} {Vs:Nat→Value} {n j:Nat} (hj:j < n) {i:Nat} (hi:i < 5):(JJ F Vs n)[j*5+i]?=(Uc (F j) (Vs j))[i]?:=by
 unfold JJ
 rw [List.flatMap_def,ZP (s:=5) _ hi]
 ·rw [List.getElem?_map,List.getElem?_range hj];rfl
 ·intro x hx
  simp only [List.mem_map] at hx
  obtain ⟨k,_,rfl⟩:=hx
  rfl
theorem FoundsAt.lies {base:Nat} {w:World} {v:Value} {F:Nat→FoundB} {n:Nat} {Vs:Nat→Value} (h:FoundsAt base w v F n Vs) (hlen:∀ j,j < n→(F j).cells.length≤1000):∃ a cap,v=.slice a n cap∧LiesF w a F n:=by
 rcases h.row.2 with ⟨hv,h0⟩|⟨g,cap,cur,hv,_⟩
 ·exact ⟨none,0,by rw [hv,h0],⟨fun hn=>by omega⟩⟩
 ·have hrow:=h.row
  subst hv
  refine ⟨some ⟨g,0,none⟩,cap,rfl,⟨fun _=>⟨g,rfl,(hrow.lt g rfl).2,fun j hj=>?_⟩⟩⟩
  obtain ⟨ca,cc,hvs,_,hl⟩:=JC (h.cells j hj) (fun x hx=>⟨(h.small j hj x hx).1,(h.small j hj x hx).2.1,Nat.le_trans (h.small j hj x hx).2.2 (by decide)⟩)
  refine ⟨ca,cc,?_,?_,?_,?_,?_,hl,hlen j hj⟩
  ·rw [hrow.cellAt _ (by omega)];exact Xw (i:=0) hj (by omega)
  ·rw [hrow.cellAt _ (by omega)];exact Xw (i:=1) hj (by omega)
  ·rw [hrow.cellAt _ (by omega)];exact Xw (i:=2) hj (by omega)
  ·rw [hrow.cellAt _ (by omega)];exact Xw (i:=3) hj (by omega)
  ·rw [hrow.cellAt _ (by omega),← hvs];exact Xw (i:=4) hj (by omega)
end
section
def Le (file pre:List UInt8) (r:List KeyB) (trust:Bool) (w:World) (e:Ending) (w':World):Prop :=
 Below w.heap.size w w'∧((∃ err,qN file pre r trust=(err,none)∧err≠0∧e=.returned (.tuple #[.pointer none,.int .i64 err])) ∨
  ∃ S B a cap,qN file pre r trust=(0,some S)∧e=.returned (.tuple #[.pointer (some ⟨B,0,none⟩),.int .i64 0])∧w'.cell? ⟨B,0,none⟩=some (.slice a S.cols.length cap)∧LiesF w' a (xt pre r S) S.cols.length)
def Xc:Prop:=∀ (file pre:List UInt8) (ra:Option Addr) (rcap:Nat) (r:List KeyB) (trust:Bool) (w:World),file.length≤maxLen→pre.length≤maxLen→r.length≤maxLen→LiesK w ra r →
 Calls Tryz.prog 38 #[strB file,strB pre,.slice ra r.length rcap,.bool trust] w (Le file pre r trust w)
def NI:Prop:=∀ (file pre:List UInt8) (r:List KeyB) (trust:Bool) (S:SheetF),qN file pre r trust=(0,some S)→S.cols.length≤1000∧∀ j,j < S.cols.length→(xt pre r S j).cells.length≤1000
theorem Gg:NI:=by
 intro file pre r trust S h
 obtain ⟨_,_,foot,parts,footer,hok⟩:=RU h
 have hp:=hok.plan
 simp only [qW,Bool.and_eq_true,decide_eq_true_eq] at hp
 have hh:=hok.heads
 simp only [jU,Bool.and_eq_true,decide_eq_true_eq] at hh
 refine ⟨by omega,fun j hj=>?_⟩
 have hml:=qR hok.mods
 unfold xt
 split
 ·exact Nat.zero_le _
 ·split
  ·exact Nat.zero_le _
  ·rename_i cells hc
   have:=(VX pre r (jk S.cols j).kind (jk S.cols j).key (R:=S.rows) (C:=S.cols.length) (G:=S.plan.group.toNat) (P:=S.plan.page.toNat) (c:=j) hj (by omega) (by omega) (M:=S.mods) hml (i:=(qy S).length) (cells:=cells) (by
    show jD _ _ _ _ _ _ ((qy S).take _) (S.mods.take _)=_
    rw [List.take_length,← hml,List.take_length]
    exact hc)).1
   have:=hok.rows
   simp only
   omega
theorem MG (hdoc:Xc) (hshort:NI) (file pre:List UInt8) (ra:Option Addr) (rcap:Nat) (r:List KeyB) (trust:Bool) (w:World) (hfl:file.length≤maxLen) (hpl:pre.length≤maxLen) (hrm:r.length*24≤140737488351232) (hrl:r.length≤maxLen) (hl:LiesK w ra r) :
  Calls Tryz.prog 10 #[strB file,strB pre,.slice ra r.length rcap,.bool trust] w fun e w'=>∃ v,e=.returned (.tuple #[v,.bool true])∧Below w.heap.size w w':=by
 have Hl:=hid hl
 have HD:=hid (fun w' (h:LiesK w' ra r)=>hdoc file pre ra rcap r trust w' hfl hpl hrl h)
 have HSH:=hid (hshort file pre r trust)
 clear hl hdoc hshort
 go_enter Tryz.func10,Tryz.ntmps10
 go_wp2_with fail
 refine (IZ ra rcap r w hrm Hl.out).mono ?_
 rintro e w2 ⟨q,rfl,hK2,hb2⟩
 have HK2:=hid hK2
 have HR2:Hid (LiesK w2 (some ⟨q,0,none⟩) r):=Gc (by have:=HK2.out;rw [Zz] at this;exact this) Hl.out.ok
 have HB2:=hid hb2
 clear hK2 hb2
 go_wp2_with fail
 refine (Mz file pre (some ⟨q,0,none⟩) (r.length+8) r trust w2 hfl hpl hrl HR2.out).mono ?_
 rintro e w3 ⟨hb3,hcase⟩
 have HB3:=hid (HB2.out.trans (hb3.mono HB2.out.size))
 have HK3:=hid (jw HK2.out hb3)
 have HL3:=hid (Hl.out.later HB3.out)
 clear hb3 HK2 HR2 HB2
 rcases hcase with ⟨err,hsf,herr,rfl⟩|⟨S,v,Vs,hsf,rfl,hfa⟩
 ·have Hsf:=hid hsf
  have Herr:=hid herr
  have hne:(err != 0)=true:=by rw [bne_iff_ne];exact herr
  clear hsf herr
  go_wp2_with fail
  refine (NZ ra rcap q w.heap.size r w3 hrm HL3.out HK3.out).mono ?_
  rintro e w4 ⟨rfl,hb4⟩
  have HB4:=hid (HB3.out.trans (hb4.mono HB3.out.size))
  have HL4:=hid (HL3.out.later hb4)
  clear hb4
  go_wp2_with fail
  refine (HD.out w4 HL4.out).mono ?_
  rintro e w5 ⟨hb5,⟨err',hsf',_,rfl⟩|⟨S,B,a,cap,hsf',_⟩⟩
  ·rw [Hsf.out] at hsf'
   injection hsf' with he _
   subst he
   have HB5:=hid (HB4.out.trans (hb5.mono HB4.out.size))
   have hee:(err == err)=true:=by simp
   clear hb5
   go_wp2
   go_ret2
   exact ⟨_,rfl,HB5.out⟩
  ·rw [Hsf.out] at hsf'
   injection hsf' with _ h2
   cases h2
 ·have Hsf:=hid hsf
  obtain ⟨hn,hsh⟩:=HSH.out S hsf
  obtain ⟨a,cap,rfl,hlf⟩:=hfa.lies hsh
  have Hlf:=hid hlf
  clear hsf hsh hfa hlf
  go_wp2_with fail
  refine (NZ ra rcap q w.heap.size r w3 hrm HL3.out HK3.out).mono ?_
  rintro e w4 ⟨rfl,hb4⟩
  have HB4:=hid (HB3.out.trans (hb4.mono HB3.out.size))
  have HL4:=hid (HL3.out.later hb4)
  have HF4:=hid (Hlf.out.later hb4)
  clear hb4
  go_wp2_with fail
  refine (HD.out w4 HL4.out).mono ?_
  rintro e w5 ⟨hb5,⟨err',hsf',herr',_⟩|⟨S',B,a',cap',hsf',rfl,hc5,hlf'⟩⟩
  ·rw [Hsf.out] at hsf'
   injection hsf' with he _
   exact absurd he.symm herr'
  ·rw [Hsf.out] at hsf'
   injection hsf' with _ he
   injection he with he
   subst he
   have HB5:=hid (HB4.out.trans (hb5.mono HB4.out.size))
   have HF5:=hid (HF4.out.later hb5)
   have HF5':=hid hlf'
   clear hb5 hlf'
   generalize xt pre r S=F at *
   generalize S.cols.length=n at *
   go_wp2_with fail
   refine (Tn a a' cap cap' F n w5 hn HF5.out HF5'.out).mono ?_
   rintro e w6 ⟨rfl,hb6⟩
   have HB6:=hid (HB5.out.trans (hb6.mono HB5.out.size))
   clear hb6
   go_wp2
   go_ret2
   exact ⟨_,rfl,HB6.out⟩
theorem Db (hdoc:Xc) (file pre:List UInt8) (ra:Option Addr) (rcap:Nat) (r:List KeyB) (trust:Bool) (w:World) (hfl:file.length≤maxLen) (hpl:pre.length≤maxLen) (hrm:r.length*24≤140737488351232) (hrl:r.length≤maxLen) (hl:LiesK w ra r) :
  Calls Tryz.prog 4 #[strB file,strB pre,.slice ra r.length rcap,.bool trust] w fun e w'=>e=.returned (.bool true)∧Below w.heap.size w w':=by
 have HR:=hid (MG hdoc Gg file pre ra rcap r trust w hfl hpl hrm hrl hl)
 clear hdoc hl
 go_enter Tryz.func4,Tryz.ntmps4
 go_wp2_with fail
 refine HR.out.mono ?_
 rintro e w1 ⟨v,rfl,hb1⟩
 have HB1:=hid hb1
 clear hb1
 go_wp2
 go_ret
 exact ⟨rfl,HB1.out⟩
end
section
theorem Pt {kind:Int} {l:List CellB} (h:qF kind l=true) (hok:∀ c ∈ l,okC c):(∀ c ∈ l,qw c)∧l.length≤60:=by
 unfold qF at h
 simp only [Bool.and_eq_true,Bool.or_eq_true,decide_eq_true_eq,List.all_eq_true] at h
 obtain ⟨⟨hk,hl⟩,hf⟩:=h
 refine ⟨fun c hc=>?_,hl⟩
 obtain ⟨h0,h1,_⟩:=hok c hc
 refine ⟨h0,h1,?_⟩
 have:=hf c hc
 unfold xL at this
 split at this
 ·simp at this;rw [this.2];simp
 ·split at this
  ·simp at this;rw [this];simp
  ·simp at this;exact this.2
end
section
theorem Tu (s:List UInt8) (w:World) (hs:s.length≤1000000):Calls Tryz.prog 146 #[strB s] w fun e w'=>e=.returned (strB (xB s))∧Below w.heap.size w w' :=
 DP ⟨s.toArray⟩ w (by rw [jK];exact hs)
theorem Vh (pre:List UInt8) (sort:UInt8) (g c p:Nat) (w:World) (hp:pre.length≤20) (hg:g≤65535) (hc:c≤65535) (hpp:p≤65535) :
  Calls Tryz.prog 86 #[strB pre,strB [sort],.int .i64 (g:Int),.int .i64 (c:Int),.int .i64 (p:Int)] w fun e w'=>e=.returned (strB (qu pre sort g c p))∧Below w.heap.size w w':=by
 have HB:Hid (qu pre sort g c p=xB pre++[sort]++qv (g:Int)++qv (c:Int)++qv (p:Int)):=rfl
 have hxl:(xB pre).length≤40:=by have:=jN pre.length (by omega);simp only [xB,List.length_append];omega
 have h2g:(qv (g:Int)).length≤2:=Nat.le_of_eq (jB (g:Int))
 have h2c:(qv (c:Int)).length≤2:=Nat.le_of_eq (jB (c:Int))
 have h2p:(qv (p:Int)).length≤2:=Nat.le_of_eq (jB (p:Int))
 go_enter Tryz.func86,Tryz.ntmps86
 go_wp2_with fail
 refine (Tu pre w (by omega)).mono ?_
 rintro e w1 ⟨rfl,hb1⟩
 go_wp2_with fail
 refine (QG (g:Int) _ (by omega) (by omega)).mono ?_
 rintro e w2 ⟨rfl,hb2⟩
 go_wp2_with fail
 refine (QG (c:Int) _ (by omega) (by omega)).mono ?_
 rintro e w3 ⟨rfl,hb3⟩
 go_wp2_with fail
 refine (QG (p:Int) _ (by omega) (by omega)).mono ?_
 rintro e w4 ⟨rfl,hb4⟩
 have hB2:=hb1.trans (hb2.mono hb1.size)
 have hB3:=hB2.trans (hb3.mono hB2.size)
 have HB4:=hid (hB3.trans (hb4.mono hB3.size))
 clear hb1 hb2 hb3 hb4 hB2 hB3
 generalize xB pre=X at *
 generalize qv (g:Int)=TG at *
 generalize qv (c:Int)=TC at *
 generalize qv (p:Int)=TP at *
 go_wp2
 go_ret
 exact ⟨by rw [HB.out];simp [xe],HB4.out⟩
theorem Pc (kind:Int) (l:List CellB) (h:kind≠0∨je l=[]):JR kind l=uB (l.length - (je l).length)++[0]:=by
 unfold JR
 rw [if_neg (by rintro ⟨h1,h2⟩;rcases h with h|h;exact h h1;exact h2 h)]
theorem Ak (l:List CellB) (h:je l≠[]):JR 0 l=uB (l.length - (je l).length)++([1]++zB (zu (je l) (qC (je l)))++zB (JN (je l) (qC (je l)))):=by
 unfold JR
 rw [if_pos ⟨rfl,h⟩]
theorem Lp {D:List CellB} (h:0 < D.length):qC D=(D[0]).int:=by
 cases D with
 | nil=>simp at h
 | cons c D=>rfl
theorem IG (D:List CellB) (k:Nat) (h:k < D.length) (x:Int):zu (D.take (k+1)) x=if (D[k]).int < zu (D.take k) x then (D[k]).int else zu (D.take k) x:=by
 unfold zu
 rw [List.take_succ_eq_append_getElem h,List.foldl_append]
 rfl
theorem AC (D:List CellB) (k:Nat) (h:k < D.length) (x:Int):JN (D.take (k+1)) x=if JN (D.take k) x < (D[k]).int then (D[k]).int else JN (D.take k) x:=by
 unfold JN
 rw [List.take_succ_eq_append_getElem h,List.foldl_append]
 rfl
theorem En (kind:Int) (a:Option Addr) (cap:Nat) (l:List CellB) (w:World) (hn:l.length≤60) (hs:∀ c ∈ l,qw c) (hl:Lies w a l) :
  Calls Tryz.prog 145 #[.int .i64 kind,.slice a l.length cap] w fun e w'=>e=.returned (strB (JR kind l))∧Below w.heap.size w w':=by
 have Hl:=hid hl
 have Hs:=hid hs
 have hvl:(je l).length≤l.length:=List.length_filter_le _ _
 have HSm:Hid (∀ c ∈ je l,qw c):=fun c hc=>hs c (List.mem_filter.1 hc).1
 clear hl hs
 go_enter Tryz.func145,Tryz.ntmps145
 go_wp2_with fail
 refine (GY a cap l w (by omega) Hl.out).mono ?_
 rintro e w1 ⟨v,rfl,hown,hb1⟩
 obtain ⟨va,vc,rfl,_,hvlie⟩:=JC hown (fun c hc=>Hl.out.ok c (List.mem_filter.1 hc).1)
 have Hv:=hid hvlie
 have HB1:=hid hb1
 clear hown hvlie hb1
 have hsub:IntKind.i64.wrap ((l.length:Int) - ((je l).length:Int))=((l.length - (je l).length:Nat):Int):=by rw [IntKind.wrap_i64];omega
 have hu64:IntKind.u64.wrap ((l.length - (je l).length:Nat):Int)=((l.length - (je l).length:Nat):Int):=Jc (by omega) (by omega)
 have hul:=jN (l.length - (je l).length) (by omega)
 go_wp2_with fail
 refine (DO (l.length - (je l).length) _ (by omega)).mono ?_
 rintro e w2 ⟨rfl,hb2⟩
 have HB2:=hid (HB1.out.trans (hb2.mono HB1.out.size))
 have Hv2:=hid (Hv.out.later hb2)
 clear hb2 hsub hu64
 by_cases hk:kind=0∧je l≠[]
 ·obtain ⟨rfl,hv0⟩:=hk
  have HM:=hid (Ak l hv0)
  have hvp:=List.length_pos_iff.2 hv0
  have hvi:(((je l).length:Int) == 0)=false:=by simp;omega
  have h0i:(0:Int) < ((je l).length:Int):=by omega
  obtain ⟨b,off,rfl,hbw,hcell⟩:=Hv2.out.at_ hv0
  have f1:=(hcell 0 hvp).2.1
  simp only [Nat.zero_mul,Nat.add_zero] at f1
  have HFI:=hid (Lp hvp)
  rw [← HFI.out] at f1
  have hfr:=Qx _ HSm.out
  have HLR:=hid (fun k=>Kx ((je l).take k) (fun c hc=>HSm.out c (List.mem_of_mem_take hc)) _ hfr)
  have HMR:=hid (fun k=>Uk ((je l).take k) (fun c hc=>HSm.out c (List.mem_of_mem_take hc)) _ hfr)
  have Hcell:=hid hcell
  have HTL:=hid (IG (je l))
  have HTM:=hid (AC (je l))
  clear hcell hfr hv0 Hv Hv2 HFI
  generalize hD:je l=D at *
  generalize hF0:qC D=F0 at *
  have HHD:=hid hD
  clear hD hF0
  go_wp2_with fail
  go_loopw [7,8,9] (fun lo hi2 i wr=>∃ k:Nat,k≤D.length∧i=.int .i64 (k:Int)∧lo=.int .i64 (zu (D.take k) F0)∧hi2=.int .i64 (JN (D.take k) F0)∧wr=w2) (fun _ _ i _=>D.length - (intOf i).toNat)
  case atStart=>exact ⟨0,Nat.zero_le _,rfl,rfl,rfl,rfl⟩
  case round =>
   obtain ⟨k,hkl,rfl,rfl,rfl,rfl⟩:=hrel
   by_cases hlt:k < D.length
   ·have hki:(k:Int) < (D.length:Int):=by omega
    have g2:=(Hcell.out k hlt).2.1
    have T1:=hid (HTL.out k hlt F0)
    have T2:=hid (HTM.out k hlt F0)
    obtain ⟨r1,r2⟩:=HLR.out k
    obtain ⟨r3,r4⟩:=HMR.out k
    generalize zu (D.take k) F0=M1 at *
    generalize JN (D.take k) F0=M2 at *
    generalize (D[k]).int=x at *
    clear f1
    by_cases h1:x < M1
    ·by_cases h2:M2 < x
     ·go_wp2
      go_roundw
      case rel=>exact ⟨k+1,by omega,by go_num,by rw [T1.out,if_pos h1],by rw [T2.out,if_pos h2],by simp⟩
      case measure=>simp [intOf];omega
     ·have h2':¬ M2 < x:=h2
      go_wp2
      go_roundw
      case rel=>exact ⟨k+1,by omega,by go_num,by rw [T1.out,if_pos h1],by rw [T2.out,if_neg h2],by simp⟩
      case measure=>simp [intOf];omega
    ·have h1':¬ x < M1:=h1
     by_cases h2:M2 < x
     ·go_wp2
      go_roundw
      case rel=>exact ⟨k+1,by omega,by go_num,by rw [T1.out,if_neg h1],by rw [T2.out,if_pos h2],by simp⟩
      case measure=>simp [intOf];omega
     ·have h2':¬ M2 < x:=h2
      go_wp2
      go_roundw
      case rel=>exact ⟨k+1,by omega,by go_num,by rw [T1.out,if_neg h1],by rw [T2.out,if_neg h2],by simp⟩
      case measure=>simp [intOf];omega
   ·have hke:k=D.length:=by omega
    subst hke
    obtain ⟨r1,r2⟩:=HLR.out D.length
    obtain ⟨r3,r4⟩:=HMR.out D.length
    rw [List.take_length] at *
    have z1:=Kr _ r1 r2
    have z2:=Kr _ r3 r4
    generalize zu D F0=M1 at *
    generalize JN D F0=M2 at *
    clear f1
    go_wp2_with fail
    refine (Dy M1 _ r1 r2).mono ?_
    rintro e w3 ⟨rfl,hb3⟩
    go_wp2_with fail
    refine (Dy M2 _ r3 r4).mono ?_
    rintro e w4 ⟨rfl,hb4⟩
    have hB3:=HB2.out.trans (hb3.mono HB2.out.size)
    have HB4:=hid (hB3.trans (hb4.mono hB3.size))
    clear hb3 hb4 hB3
    generalize uB (l.length - D.length)=U at *
    generalize zB M1=Z1 at *
    generalize zB M2=Z2 at *
    go_wp2
    go_ret
    exact ⟨by rw [HM.out];simp [xe],HB4.out⟩
 ·have HM:=hid (Pc kind l (by by_cases h0:kind=0;exact .inr (by simpa [h0] using hk);exact .inl h0))
  by_cases h0:kind=0
  ·have hv0:je l=[]:=by simpa [h0] using hk
   subst h0
   have hv1:(je l).length=0:=by rw [hv0];rfl
   have hvi:(((je l).length:Int) == 0)=true:=by rw [hv1];rfl
   clear hk Hv Hv2 HSm hv0 hv1
   generalize uB (l.length - (je l).length)=U at *
   go_wp2
   go_ret
   exact ⟨by rw [HM.out];simp [xe],HB2.out⟩
  ·have h0':(kind != 0)=true:=by simpa using h0
   clear hk h0 Hv Hv2
   generalize uB (l.length - (je l).length)=U at *
   go_wp2
   go_ret
   exact ⟨by rw [HM.out];simp [xe],HB2.out⟩
end
section
abbrev seal0:Array Value:=#[Value.string { data:=#[] },Value.string { data:=#[] },Value.string { data:=#[] },Value.string { data:=#[] }]
theorem XS {P:Program} {fn:Func} {p q q2:Tmp} {ty:TypeId} (h:fn.results=#[.cell p ty,.tmp q,.tmp q2]) (tmps:Array Value) (w:World) (g:Nat) (cs:Array Value) (x y:Value)
  (hp:tmps.getD p undef=.pointer (some ⟨g,0,none⟩)) (hq:tmps.getD q undef=x) (hq2:tmps.getD q2 undef=y) (hl:(loadVar ty ⟨g,0,none⟩).run P w=.ok (.agg cs) w) :
  (results fn tmps).run P w=.ok (.tuple #[.agg cs,x,y]) w:=by
 have hp':tmps[p]?.getD undef=.pointer (some ⟨g,0,none⟩):=by simpa using hp
 have hq':tmps[q]?.getD undef=x:=by simpa using hq
 have hq2':tmps[q2]?.getD undef=y:=by simpa using hq2
 simp [results,h,hp',hq',hq2',asAddr,hl]
theorem Ct (sec non ext body:List UInt8) (w:World) (h1:sec.length≤1000) (h2:non.length≤1000) (h3:ext.length≤5000) (hb:body.length≤5002) :
  Calls Tryz.prog 120 #[strB sec,strB non,strB ext,strB body] w fun e w'=>Below w.heap.size w w'∧∃ p,e=.returned (.tuple #[strB p,.bool (qo sec non ext body).isSome])∧∀ q,qo sec non ext body=some q→p=q:=by
 by_cases hs:body.length < 2
 ·refine (Re ⟨sec.toArray⟩ ⟨non.toArray⟩ ⟨ext.toArray⟩ ⟨body.toArray⟩ w (by simpa [ByteArray.size] using hs)).mono ?_
  rintro e w' ⟨rfl,rfl⟩
  have hn:qo sec non ext body=none:=by
   unfold qo
   rw [if_neg (by omega)]
  rw [hn]
  exact ⟨Below.refl _ _,[],rfl,fun q h=>by cases h⟩
 ·refine (IV ⟨sec.toArray⟩ ⟨non.toArray⟩ ⟨ext.toArray⟩ ⟨body.toArray⟩ w (by simp [ByteArray.size];omega) (by simpa [ByteArray.size] using hb) (by simpa [ByteArray.size] using h1) (by simpa [ByteArray.size] using h2) (by simpa [ByteArray.size] using h3)).mono ?_
  rintro e w' ⟨rfl,hbw⟩
  refine ⟨hbw,zl sec non (Ua body),?_,?_⟩
  ·have he:Zd sec non ext body=(qo sec non ext body).isSome:=by
    rw [← ZJ]
    unfold qo
    by_cases h:Xi sec non ext (zl sec non (Ua body))=body
    ·rw [if_pos ⟨hb,by omega,h⟩]
     simp [h]
    ·rw [if_neg (fun h'=>h h'.2.2)]
     simpa using h
   rw [← he]
  ·intro q h
   unfold qo at h
   split at h
   ·injection h
   ·cases h
theorem Uh (ra:Option Addr) (rcap:Nat) (r:List KeyB) (key:Int) (ext non body:List UInt8) (w:World) (hl:LiesK w ra r) (hrm:r.length≤maxLen) (hsec:(jm r key).length≤1000) (hnon:non.length≤1000) (hext:ext.length≤5000) (hbody:body.length≤maxLen) :
  Calls Tryz.prog 89 #[.slice ra r.length rcap,.int .i64 key,strB ext,.agg #[strB non,strB body]] w fun e w'=>Below w.heap.size w w' ∧
   ∃ p,e=.returned (.tuple #[.agg #[strB (jm r key),strB non,strB ext,strB body],strB p,.bool (qo (jm r key) non ext body).isSome])∧∀ q,qo (jm r key) non ext body=some q→p=q:=by
 have HLG:Hid (5002 < body.length→qo (jm r key) non ext body=none):=fun h=>by
  unfold qo
  rw [if_neg (by omega)]
 have HOP:=hid (fun w' (hb:body.length≤5002)=>Ct (jm r key) non ext body w' hsec hnon hext hb)
 have HSE:=hid (fun w' (h:LiesK w' ra r)=>Zi ra rcap r key w' hrm h)
 have Hl:=hid hl
 obtain ⟨hb0,hl0,ho0,ho1⟩:=JQ w #[strB non,strB body] 167 seal0 40
 have HB0:=hid hb0
 have Ho0:=hid ho0
 have Ho1:=hid ho1
 have HL0:=hid (hl.later hb0)
 have hexi:(ext.length:Int)≤5000:=by omega
 clear hl hsec hnon hb0 ho0 ho1 hl0
 generalize qo (jm r key) non ext body=O at *
 generalize jm r key=sec at *
 go_enter Tryz.func89,Tryz.ntmps89
 go_upto_region 1 with fail
 generalize (w.alloc _).alloc _=W0 at *
 have c0:W0.cell? ⟨w.heap.size,0,none⟩=some (strB non):=by rw [cell_of_row W0 w.heap.size 0 _ _ (0,0) Ho0.out];rfl
 have c1:W0.cell? ⟨w.heap.size,1,none⟩=some (strB body):=by rw [cell_of_row W0 w.heap.size 1 _ _ (0,0) Ho0.out];rfl
 refine wp_region_held_drew (S:=fun w'=>w'.cell? ⟨w.heap.size,0,none⟩=some (strB non)∧w'.cell? ⟨w.heap.size,1,none⟩=some (strB body)) (by kernel_rfl) ⟨c0,c1⟩ (fun hHeld=>?_)
 refine tk 0 (.slice ra r.length rcap) ?_
 refine tk 1 (.int .i64 key) ?_
 refine tk 3 (.pointer (some ⟨w.heap.size,0,none⟩)) ?_
 refine tk 4 (strB non) ?_
 refine tk 5 (strB ext) ?_
 refine tk 6 (.pointer (some ⟨w.heap.size,1,none⟩)) ?_
 refine tk 7 (strB body) ?_
 simp only [ga,gb,gc,Act.put,gd,ge,gf]
 refine wpAnyH_ready (rs:=[2,9]) (by kernel_rfl) (by simp) ?_
 refine AllReadyH.cons (o:=_) rfl (fun K hK=>?_) (AllReadyH.cons (o:=_) rfl (fun K hK=>?_) AllReadyH.nil)
 ·simp only [ga,gb,gc]
  go_simp
  go_at_call 81
  refine (HSE.out _ (show LiesK W0.drew ra r from (HL0.out.later (qb (Below.refl _ _))))).mono ?_
  rintro e w1 ⟨rfl,hb1⟩
  have hb1':=ji hb1
  have HB1:=hid (HB0.out.trans (hb1'.mono HB0.out.size))
  have Hm1:=hid (jb hb1' Ho0.out)
  have Hr1:=hid (jb hb1' Ho1.out)
  clear hb1 hb1'
  have d0:w1.cell? ⟨w.heap.size,0,none⟩=some (strB non):=by rw [cell_of_row w1 w.heap.size 0 _ _ (0,0) Hm1.out];rfl
  have d1:w1.cell? ⟨w.heap.size,1,none⟩=some (strB body):=by rw [cell_of_row w1 w.heap.size 1 _ _ (0,0) Hm1.out];rfl
  try go_wp2_with fail
  refine hK.out _ _ ⟨d0,d1⟩ (fun hHeld=>?_)
  clear hK K
  try simp only [ga,gb,gc,Act.put,gd,ge,gf]
  refine tk 8 (.agg #[strB sec,strB non,strB ext,strB body]) ?_
  simp only [ga,gb,gc,Act.put,gd,ge,gf]
  refine rd 9 (fun K hK=>?_)
  simp only [ga,gb,gc]
  go_simp
  try go_wp2_with fail
  have Hs2:Hid ((w1.alloc (.cells seal0 40)).heap[w1.heap.size]?=some (.cells seal0 40 (0,0))):=(qg w1 seal0 40).2.2.2
  have Hm2:=hid (jt (.cells seal0 40) Hm1.out)
  have Hr2:=hid (jt (.cells seal0 40) Hr1.out)
  have HB2:=hid (HB1.out.alloc HB1.out.size (.cells seal0 40))
  have hz:=HB1.out.size
  have hz2:=(Array.getElem?_eq_some_iff.1 Hr1.out).1
  have e0:(w1.alloc (.cells seal0 40)).cell? ⟨w.heap.size,0,none⟩=some (strB non):=by rw [cell_of_row _ w.heap.size 0 _ _ (0,0) Hm2.out];rfl
  have e1:(w1.alloc (.cells seal0 40)).cell? ⟨w.heap.size,1,none⟩=some (strB body):=by rw [cell_of_row _ w.heap.size 1 _ _ (0,0) Hm2.out];rfl
  refine hK.out _ _ ⟨e0,e1⟩ (fun hHeld=>?_)
  clear hK K e0 e1
  try simp only [ga,gb,gc,Act.put,gd,ge,gf]
  refine rd 10 (fun K hK=>?_)
  simp only [ga,gb,gc]
  rw [if_pos (by simp [Region.wanted])]
  refine wp_store_row 40 (.tmp 11) (.tmp 22) rfl (w1.heap.size) #[strB sec,strB non,strB ext,strB body] rfl rfl 40 seal0 Hs2.out (by kernel_rfl) rfl (by simp [Value.oneCell']) ?_
  have hgr:=jn (w1.alloc (.cells seal0 40)) (w1.heap.size) #[strB sec,strB non,strB ext,strB body]
  have Hs3:=hid (setRow_heap (w1.alloc (.cells seal0 40)) (w1.heap.size) _ #[strB sec,strB non,strB ext,strB body] 40 (0,0) Hs2.out)
  have Hm3:=hid (jf hgr Hm2.out (by omega))
  have Hr3:=hid (jf hgr Hr2.out (by omega))
  have HB3:=hid (HB2.out.trans (jg hgr (by omega) HB2.out.size))
  have f0:((w1.alloc (.cells seal0 40)).setRow (w1.heap.size) #[strB sec,strB non,strB ext,strB body]).cell? ⟨w.heap.size,0,none⟩=some (strB non):=by rw [cell_of_row _ w.heap.size 0 _ _ (0,0) Hm3.out];rfl
  have f1:((w1.alloc (.cells seal0 40)).setRow (w1.heap.size) #[strB sec,strB non,strB ext,strB body]).cell? ⟨w.heap.size,1,none⟩=some (strB body):=by rw [cell_of_row _ w.heap.size 1 _ _ (0,0) Hm3.out];rfl
  refine hK.out _ _ ⟨f0,f1⟩ (fun hHeld=>?_)
  clear hK K f0 f1 hgr
  refine wpAnyH_done (by kernel_rfl) ?_ _
  clear hHeld
  generalize hW3:(w1.alloc (.cells seal0 40)).setRow (w1.heap.size) #[strB sec,strB non,strB ext,strB body]=w3 at *
  clear hW3
  generalize hsb:w1.heap.size=sb at Hs3 ⊢
  clear hsb
  have a0:w3.cell? ⟨w.heap.size,1,none⟩=some (strB body):=by rw [cell_of_row w3 w.heap.size 1 _ _ (0,0) Hm3.out];rfl
  have b0:w3.cell? ⟨sb,0,none⟩=some (strB sec):=by rw [cell_of_row w3 sb 0 _ _ (0,0) Hs3.out];rfl
  have b1:w3.cell? ⟨sb,1,none⟩=some (strB non):=by rw [cell_of_row w3 sb 1 _ _ (0,0) Hs3.out];rfl
  have b2:w3.cell? ⟨sb,2,none⟩=some (strB ext):=by rw [cell_of_row w3 sb 2 _ _ (0,0) Hs3.out];rfl
  have b3:w3.cell? ⟨sb,3,none⟩=some (strB body):=by rw [cell_of_row w3 sb 3 _ _ (0,0) Hs3.out];rfl
  clear c0 c1 d0 d1
  by_cases hlong:5002 < body.length
  ·have hli:(5002:Int) < (body.length:Int):=by omega
   have HN:=hid (HLG.out hlong)
   clear hlong
   go_wp2_with (first|(refine wpList_load_row rfl 40 (.tmp 11) rfl sb rfl 40 #[strB sec,strB non,strB ext,strB body] (0,0) _ Hs3.out Tryz.underlying40 rfl (by kernel_rfl) ?_)|(refine wpList_store_row rfl 40 (.tmp 8) (.tmp 32) rfl (w.heap.size+1) #[strB sec,strB non,strB ext,strB body] rfl rfl 40 seal0 Hr3.out (by kernel_rfl) rfl (by simp [Value.oneCell']) ?_))
   have hgr:=jn w3 (w.heap.size+1) #[strB sec,strB non,strB ext,strB body]
   have HoE:=hid (setRow_heap w3 (w.heap.size+1) _ #[strB sec,strB non,strB ext,strB body] 40 (0,0) Hr3.out)
   have HBE:=hid (HB3.out.trans (jg hgr (by omega) HB3.out.size))
   clear hgr
   generalize w3.setRow _ _=w4 at *
   rw [HN.out]
   exact bodyPost_ret (v:=.tuple #[.agg #[strB sec,strB non,strB ext,strB body],strB [],.bool false]) (XS (p:=8) (q:=9) (q2:=10) rfl _ _ _ _ _ _ rfl rfl rfl (run_loadVar_row (P:=Tryz.prog) w4 (w.heap.size+1) 40 40 #[strB sec,strB non,strB ext,strB body] (0,0) _ HoE.out Tryz.underlying40 rfl (by kernel_rfl))) rfl ⟨HBE.out,[],rfl,fun q h=>by cases h⟩
  ·have hli:(body.length:Int)≤5002:=by omega
   have hlb:body.length≤5002:=by omega
   clear hlong
   go_wp2_with fail
   refine (HOP.out w3 hlb).mono ?_
   rintro e w4 ⟨hb4,pl,rfl,hpl⟩
   have HB4:=hid (HB3.out.trans (hb4.mono HB3.out.size))
   have Hs4:=hid (jb hb4 Hs3.out)
   have Hr4:=hid (jb hb4 Hr3.out)
   have HPL:=hid hpl
   clear hb4 hpl a0 b0 b1 b2 b3
   go_wp2_with (first|(refine wpList_load_row rfl 40 (.tmp 11) rfl sb rfl 40 #[strB sec,strB non,strB ext,strB body] (0,0) _ Hs4.out Tryz.underlying40 rfl (by kernel_rfl) ?_)|(refine wpList_store_row rfl 40 (.tmp 8) (.tmp 45) rfl (w.heap.size+1) #[strB sec,strB non,strB ext,strB body] rfl rfl 40 seal0 Hr4.out (by kernel_rfl) rfl (by simp [Value.oneCell']) ?_))
   have hgr:=jn w4 (w.heap.size+1) #[strB sec,strB non,strB ext,strB body]
   have HoE:=hid (setRow_heap w4 (w.heap.size+1) _ #[strB sec,strB non,strB ext,strB body] 40 (0,0) Hr4.out)
   have HBE:=hid (HB4.out.trans (jg hgr (by omega) HB4.out.size))
   clear hgr
   generalize w4.setRow _ _=w5 at *
   exact bodyPost_ret (v:=.tuple #[.agg #[strB sec,strB non,strB ext,strB body],strB pl,.bool O.isSome]) (XS (p:=8) (q:=9) (q2:=10) rfl _ _ _ _ _ _ rfl rfl rfl (run_loadVar_row (P:=Tryz.prog) w5 (w.heap.size+1) 40 40 #[strB sec,strB non,strB ext,strB body] (0,0) _ HoE.out Tryz.underlying40 rfl (by kernel_rfl))) rfl ⟨HBE.out,pl,rfl,HPL.out⟩
 ·simp only [ga,gb,gc]
  go_simp
  try go_wp2_with fail
  have HsA:Hid ((W0.alloc (.cells seal0 40)).heap[W0.heap.size]?=some (.cells seal0 40 (0,0))):=(qg W0 seal0 40).2.2.2
  have HmA:=hid (jt (w:=W0) (.cells seal0 40) Ho0.out)
  have HrA:=hid (jt (w:=W0) (.cells seal0 40) Ho1.out)
  have HBA:=hid (HB0.out.alloc HB0.out.size (.cells seal0 40))
  have HLA:=hid (HL0.out.later ((Below.refl _ W0).alloc (Nat.le_refl _) (.cells seal0 40)))
  have hz:=HB0.out.size
  have hz2:=(Array.getElem?_eq_some_iff.1 Ho1.out).1
  have e0:(W0.alloc (.cells seal0 40)).cell? ⟨w.heap.size,0,none⟩=some (strB non):=by rw [cell_of_row _ w.heap.size 0 _ _ (0,0) HmA.out];rfl
  have e1:(W0.alloc (.cells seal0 40)).cell? ⟨w.heap.size,1,none⟩=some (strB body):=by rw [cell_of_row _ w.heap.size 1 _ _ (0,0) HmA.out];rfl
  refine hK.out _ _ ⟨e0,e1⟩ (fun hHeld=>?_)
  clear hK K
  try simp only [ga,gb,gc,Act.put,gd,ge,gf]
  clear e0 e1
  generalize hWA:W0.alloc (.cells seal0 40)=WA at *
  clear hWA
  generalize hsb:W0.heap.size=sb at HsA ⊢
  have Hsb:=hid hsb
  clear hsb
  refine rd 2 (fun K hK=>?_)
  simp only [ga,gb,gc]
  go_simp
  go_at_call 81
  refine (HSE.out _ (show LiesK WA.drew ra r from (HLA.out.later (qb (Below.refl _ _))))).mono ?_
  rintro e w1 ⟨rfl,hb1⟩
  have hb1':=ji hb1
  have HB1:=hid (HBA.out.trans (hb1'.mono HBA.out.size))
  have Hm1:=hid (jb hb1' HmA.out)
  have Hr1:=hid (jb hb1' HrA.out)
  have Hs2:=hid (jb hb1' HsA.out)
  have Hm2:=Hm1
  have Hr2:=Hr1
  have HB2:=HB1
  clear hb1 hb1'
  have d0:w1.cell? ⟨w.heap.size,0,none⟩=some (strB non):=by rw [cell_of_row w1 w.heap.size 0 _ _ (0,0) Hm1.out];rfl
  have d1:w1.cell? ⟨w.heap.size,1,none⟩=some (strB body):=by rw [cell_of_row w1 w.heap.size 1 _ _ (0,0) Hm1.out];rfl
  try go_wp2_with fail
  refine hK.out _ _ ⟨d0,d1⟩ (fun hHeld=>?_)
  clear hK K
  try simp only [ga,gb,gc,Act.put,gd,ge,gf]
  refine tk 8 (.agg #[strB sec,strB non,strB ext,strB body]) ?_
  simp only [ga,gb,gc,Act.put,gd,ge,gf]
  refine rd 10 (fun K hK=>?_)
  simp only [ga,gb,gc]
  have hsw:w.heap.size+1 < sb:=by rw [← Hsb.out];exact hz2
  rw [if_pos (by simp [Region.wanted])]
  refine wp_store_row 40 (.tmp 11) (.tmp 22) rfl (sb) #[strB sec,strB non,strB ext,strB body] rfl rfl 40 seal0 Hs2.out (by kernel_rfl) rfl (by simp [Value.oneCell']) ?_
  have hgr:=jn w1 (sb) #[strB sec,strB non,strB ext,strB body]
  have Hs3:=hid (setRow_heap w1 (sb) _ #[strB sec,strB non,strB ext,strB body] 40 (0,0) Hs2.out)
  have Hm3:=hid (jf hgr Hm2.out (by omega))
  have Hr3:=hid (jf hgr Hr2.out (by omega))
  have HB3:=hid (HB2.out.trans (jg hgr (by omega) HB2.out.size))
  have f0:(w1.setRow (sb) #[strB sec,strB non,strB ext,strB body]).cell? ⟨w.heap.size,0,none⟩=some (strB non):=by rw [cell_of_row _ w.heap.size 0 _ _ (0,0) Hm3.out];rfl
  have f1:(w1.setRow (sb) #[strB sec,strB non,strB ext,strB body]).cell? ⟨w.heap.size,1,none⟩=some (strB body):=by rw [cell_of_row _ w.heap.size 1 _ _ (0,0) Hm3.out];rfl
  refine hK.out _ _ ⟨f0,f1⟩ (fun hHeld=>?_)
  clear hK K f0 f1 hgr
  refine wpAnyH_done (by kernel_rfl) ?_ _
  clear hHeld
  generalize hW3:w1.setRow (sb) #[strB sec,strB non,strB ext,strB body]=w3 at *
  clear hW3
  skip
  have a0:w3.cell? ⟨w.heap.size,1,none⟩=some (strB body):=by rw [cell_of_row w3 w.heap.size 1 _ _ (0,0) Hm3.out];rfl
  have b0:w3.cell? ⟨sb,0,none⟩=some (strB sec):=by rw [cell_of_row w3 sb 0 _ _ (0,0) Hs3.out];rfl
  have b1:w3.cell? ⟨sb,1,none⟩=some (strB non):=by rw [cell_of_row w3 sb 1 _ _ (0,0) Hs3.out];rfl
  have b2:w3.cell? ⟨sb,2,none⟩=some (strB ext):=by rw [cell_of_row w3 sb 2 _ _ (0,0) Hs3.out];rfl
  have b3:w3.cell? ⟨sb,3,none⟩=some (strB body):=by rw [cell_of_row w3 sb 3 _ _ (0,0) Hs3.out];rfl
  clear c0 c1 d0 d1
  by_cases hlong:5002 < body.length
  ·have hli:(5002:Int) < (body.length:Int):=by omega
   have HN:=hid (HLG.out hlong)
   clear hlong
   go_wp2_with (first|(refine wpList_load_row rfl 40 (.tmp 11) rfl sb rfl 40 #[strB sec,strB non,strB ext,strB body] (0,0) _ Hs3.out Tryz.underlying40 rfl (by kernel_rfl) ?_)|(refine wpList_store_row rfl 40 (.tmp 8) (.tmp 32) rfl (w.heap.size+1) #[strB sec,strB non,strB ext,strB body] rfl rfl 40 seal0 Hr3.out (by kernel_rfl) rfl (by simp [Value.oneCell']) ?_))
   have hgr:=jn w3 (w.heap.size+1) #[strB sec,strB non,strB ext,strB body]
   have HoE:=hid (setRow_heap w3 (w.heap.size+1) _ #[strB sec,strB non,strB ext,strB body] 40 (0,0) Hr3.out)
   have HBE:=hid (HB3.out.trans (jg hgr (by omega) HB3.out.size))
   clear hgr
   generalize w3.setRow _ _=w4 at *
   rw [HN.out]
   exact bodyPost_ret (v:=.tuple #[.agg #[strB sec,strB non,strB ext,strB body],strB [],.bool false]) (XS (p:=8) (q:=9) (q2:=10) rfl _ _ _ _ _ _ rfl rfl rfl (run_loadVar_row (P:=Tryz.prog) w4 (w.heap.size+1) 40 40 #[strB sec,strB non,strB ext,strB body] (0,0) _ HoE.out Tryz.underlying40 rfl (by kernel_rfl))) rfl ⟨HBE.out,[],rfl,fun q h=>by cases h⟩
  ·have hli:(body.length:Int)≤5002:=by omega
   have hlb:body.length≤5002:=by omega
   clear hlong
   go_wp2_with fail
   refine (HOP.out w3 hlb).mono ?_
   rintro e w4 ⟨hb4,pl,rfl,hpl⟩
   have HB4:=hid (HB3.out.trans (hb4.mono HB3.out.size))
   have Hs4:=hid (jb hb4 Hs3.out)
   have Hr4:=hid (jb hb4 Hr3.out)
   have HPL:=hid hpl
   clear hb4 hpl a0 b0 b1 b2 b3
   go_wp2_with (first|(refine wpList_load_row rfl 40 (.tmp 11) rfl sb rfl 40 #[strB sec,strB non,strB ext,strB body] (0,0) _ Hs4.out Tryz.underlying40 rfl (by kernel_rfl) ?_)|(refine wpList_store_row rfl 40 (.tmp 8) (.tmp 45) rfl (w.heap.size+1) #[strB sec,strB non,strB ext,strB body] rfl rfl 40 seal0 Hr4.out (by kernel_rfl) rfl (by simp [Value.oneCell']) ?_))
   have hgr:=jn w4 (w.heap.size+1) #[strB sec,strB non,strB ext,strB body]
   have HoE:=hid (setRow_heap w4 (w.heap.size+1) _ #[strB sec,strB non,strB ext,strB body] 40 (0,0) Hr4.out)
   have HBE:=hid (HB4.out.trans (jg hgr (by omega) HB4.out.size))
   clear hgr
   generalize w4.setRow _ _=w5 at *
   exact bodyPost_ret (v:=.tuple #[.agg #[strB sec,strB non,strB ext,strB body],strB pl,.bool O.isSome]) (XS (p:=8) (q:=9) (q2:=10) rfl _ _ _ _ _ _ rfl rfl rfl (run_loadVar_row (P:=Tryz.prog) w5 (w.heap.size+1) 40 40 #[strB sec,strB non,strB ext,strB body] (0,0) _ HoE.out Tryz.underlying40 rfl (by kernel_rfl))) rfl ⟨HBE.out,pl,rfl,HPL.out⟩
end
end Go.Proofs.YthhpbhpfagoapaaGreat
