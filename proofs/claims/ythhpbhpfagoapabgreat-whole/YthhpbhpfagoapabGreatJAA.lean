import Derived.Test.YthhpbhpfagoapabGreatJBI
import Derived.Test.YthhpbhpfagoapabGreatKMake
import Derived.Test.YthhpbhpfagoapabGreatJAX
import Derived.Test.YthhpbhpfagoapabGreatJBG
import Derived.Test.YthhpbhpfagoapabGreatJAS
import Derived.Test.YthhpbhpfagoapabGreatJBH
namespace Go.Proofs.YthhpbhpfagoapabGreat
set_option linter.unusedVariables false
set_option linter.unusedSimpArgs false
set_option maxRecDepth 100000
set_option maxHeartbeats 16000000
open Go.RowKit
section
theorem GM {j:JobB} {r:List KeyB} (h:GoodJ j r):zH j r=0:=by
 unfold zH
 rw [if_neg (by rw [h.table.ok];simp),if_neg,if_neg (by rw [h.ring];simp),if_neg (by rw [h.has];simp)]
 rw [h.plan]
 have:=h.pre
 have:=h.draw
 simp
 omega
theorem Bp (j:JobB) (r:List KeyB):(zr j r).isEmpty=false:=by
 unfold zr
 simp [List.isEmpty_eq_false_iff]
theorem ZO (ta:Option Addr) (tcap:Nat) (ra:Option Addr) (rcap:Nat) (r:List KeyB) (j:JobB) (w:World) (hj:LiesJ w ta tcap j) (hr:LiesK w ra r) (hrm:r.length≤maxLen) (hg:GoodJ j r) :
  Calls Tryz.prog 10 #[jobV (.slice ta j.table.length tcap) j,.slice ra r.length rcap] w
   fun e w'=>∃ lv,e=.returned (.tuple #[strB (zr j r),lv,.bool true])∧w'.ownsRow w.heap.size 54 4 lv (Jg j r).length (qI (Jg j r))∧Below w.heap.size w w':=by
 have Hj:=hid hj
 have Hr:=hid hr
 have hz:=GM hg
 have Hz:=hid hz
 have hfe:=Bp j r
 clear hj hr hz
 go_enter Tryz.func10,Tryz.ntmps10
 go_wp2_with fail
 obtain ⟨hb0,hs0,_,_⟩:=jK w #[.slice ta j.table.length tcap,.int .i64 j.plan.group,.int .i64 j.plan.page,.int .i64 j.plan.foot,.bool j.plan.told,strB j.pre,.int .i64 j.draw] 27
 have Hj0:=hid (Hj.out.later hb0)
 have Hr0:=hid (Hr.out.later hb0)
 have Hb0:=hid hb0
 clear hb0
 generalize w.alloc (.cells #[.slice ta j.table.length tcap,.int .i64 j.plan.group,.int .i64 j.plan.page,.int .i64 j.plan.foot,.bool j.plan.told,strB j.pre,.int .i64 j.draw] 27)=w0 at *
 refine (Rv ta tcap ra rcap r j w0 Hj0.out Hr0.out hrm).mono ?_
 rintro e w1 ⟨hb1,hcase⟩
 obtain ⟨lv,rfl,hl⟩:∃ lv,e=.returned (.tuple #[strB (zr j r),lv,.int .i64 0])∧w1.ownsRow w0.heap.size 54 4 lv (Jg j r).length (qI (Jg j r)):=by
  rcases hcase with ⟨hne,_⟩|⟨_,h⟩
  ·exact absurd Hz.out hne
  ·exact h
 have HL:=hid (Vw hl Hb0.out.size)
 have HB:=hid (Hb0.out.trans (hb1.mono Hb0.out.size))
 clear hcase hl hb1
 generalize hF:zr j r=F at *
 have HF:=hid hF
 clear hF
 go_wp2
 refine bodyPost_ret (v:=.tuple #[strB F,lv,.bool true]) (by simp [results,Tryz.results10,go_sem]) rfl ?_
 exact ⟨lv,by rw [HF.out],HL.out,HB.out⟩
structure LiesP (w:World) (a:Option Addr) (l:List (Nat × Nat)):Prop where
 at_:l≠[]→∃ b,a=some ⟨b,0,none⟩∧b < w.heap.size∧∀ j (h:j < l.length),w.cell? ⟨b,j*2,none⟩=some (.int .i64 ((l[j]).1:Int))∧w.cell? ⟨b,j*2+1,none⟩=some (.int .i64 ((l[j]).2:Int))
theorem LiesP.later {w w':World} {a:Option Addr} {r:List (Nat × Nat)} (h:LiesP w a r) (hb:Below w.heap.size w w'):LiesP w' a r:=by
 refine ⟨fun hne=>?_⟩
 obtain ⟨b,ha,hlt,hc⟩:=h.at_ hne
 refine ⟨b,ha,Nat.lt_of_lt_of_le hlt hb.size,fun j hj=>?_⟩
 obtain ⟨h1,h2⟩:=hc j hj
 exact ⟨(hb.cell (p:=⟨b,_,none⟩) hlt).trans h1,(hb.cell (p:=⟨b,_,none⟩) hlt).trans h2⟩
end
section
def La:DecidableEq CellB:=fun a b=>decidable_of_iff (a.null=b.null∧a.int=b.int∧a.text=b.text) ⟨fun ⟨h1,h2,h3⟩=>by cases a;cases b;simp_all,fun h=>by subst h;exact ⟨rfl,rfl,rfl⟩⟩
def NP (l l2:List CellB):Decidable (l=l2):=@instDecidableEqList CellB La l l2
def XL (l l2:List CellB):Bool:=@decide (l=l2) (NP l l2)
theorem deqC_iff {l l2:List CellB}:XL l l2=true ↔ l=l2:=@decide_eq_true_iff _ (NP l l2)
theorem deqC_no {l l2:List CellB}:XL l l2=false ↔ ¬ l=l2:=@decide_eq_false_iff_not _ (NP l l2)
theorem Xs {B:Nat} {w w':World} (h:Below B w w'):Below B w w'.drew:=⟨h.os,h.tape,h.output,h.size,h.block⟩
theorem Vb {α:Type} {l m:List α} {k:Nat} (hk:k < l.length) (hk2:k < m.length) (h:l.take k=m.take k) (he:l[k]=m[k]):l.take (k+1)=m.take (k+1):=by
 rw [List.take_succ_eq_append_getElem hk,List.take_succ_eq_append_getElem hk2,h,he]
structure LiesF (w:World) (a:Option Addr) (F:Nat→FoundB) (n:Nat):Prop where
 at_:0 < n→∃ b,a=some ⟨b,0,none⟩∧b < w.heap.size∧∀ j,j < n→∃ ca cc,
  w.cell? ⟨b,j*5,none⟩=some (strB (F j).name)∧w.cell? ⟨b,j*5+1,none⟩=some (.int .i64 (F j).kind)∧w.cell? ⟨b,j*5+2,none⟩=some (.int .i64 (F j).key)∧w.cell? ⟨b,j*5+3,none⟩=some (.int .i64 (F j).state) ∧
  w.cell? ⟨b,j*5+4,none⟩=some (.slice ca (F j).cells.length cc)∧Lies w ca (F j).cells∧(F j).cells.length≤1000
theorem LiesF.later {w w':World} {a:Option Addr} {F:Nat→FoundB} {n:Nat} (h:LiesF w a F n) (hb:Below w.heap.size w w'):LiesF w' a F n:=by
 refine ⟨fun hne=>?_⟩
 obtain ⟨b,ha,hlt,hc⟩:=h.at_ hne
 refine ⟨b,ha,Nat.lt_of_lt_of_le hlt hb.size,fun j hj=>?_⟩
 obtain ⟨ca,cc,h1,h2,h3,h4,h5,h6,h7⟩:=hc j hj
 exact ⟨ca,cc,(hb.cell (p:=⟨b,_,none⟩) hlt).trans h1,(hb.cell (p:=⟨b,_,none⟩) hlt).trans h2,(hb.cell (p:=⟨b,_,none⟩) hlt).trans h3,(hb.cell (p:=⟨b,_,none⟩) hlt).trans h4,(hb.cell (p:=⟨b,_,none⟩) hlt).trans h5,h6.later hb,h7⟩
theorem Za {F:Nat→FoundB} {Vs:Nat→Value} {n j:Nat} (hj:j < n) {i:Nat} (hi:i < 5):(Xi F Vs n)[j*5+i]?=(Gc (F j) (Vs j))[i]?:=by
 unfold Xi
 rw [List.flatMap_def,KP (s:=5) _ hi]
 ·rw [List.getElem?_map,List.getElem?_range hj];rfl
 ·intro x hx
  simp only [List.mem_map] at hx
  obtain ⟨k,_,rfl⟩:=hx
  rfl
theorem FoundsAt.lies {base:Nat} {w:World} {v:Value} {F:Nat→FoundB} {n:Nat} {Vs:Nat→Value} (h:FoundsAt base w v F n Vs) (hlen:∀ j,j < n→(F j).cells.length≤1000):∃ a cap,v=.slice a n cap∧LiesF w a F n:=by
 rcases h.row.2 with ⟨hv,h0⟩|⟨g,cap,cur,hv,_⟩
 ·exact ⟨none,0,by rw [hv,h0],⟨fun hn=>by omega⟩⟩
 ·have hrow:=h.row
  subst hv
  refine ⟨some ⟨g,0,none⟩,cap,rfl,⟨fun _=>⟨g,rfl,(hrow.lt g rfl).2,fun j hj=>?_⟩⟩⟩
  obtain ⟨ca,cc,hvs,_,hl⟩:=RI (h.cells j hj) (fun x hx=>⟨(h.small j hj x hx).1,(h.small j hj x hx).2.1,Nat.le_trans (h.small j hj x hx).2.2 (by decide)⟩)
  refine ⟨ca,cc,?_,?_,?_,?_,?_,hl,hlen j hj⟩
  ·rw [hrow.cellAt _ (by omega)];exact Za (i:=0) hj (by omega)
  ·rw [hrow.cellAt _ (by omega)];exact Za (i:=1) hj (by omega)
  ·rw [hrow.cellAt _ (by omega)];exact Za (i:=2) hj (by omega)
  ·rw [hrow.cellAt _ (by omega)];exact Za (i:=3) hj (by omega)
  ·rw [hrow.cellAt _ (by omega),← hvs];exact Za (i:=4) hj (by omega)
def MY:Prop:=∀ (file pre:List UInt8) (r:List KeyB) (trust:Bool) (S:SheetF),xg file pre r trust=(0,some S)→S.cols.length≤1000∧∀ j,j < S.cols.length→(qi pre r S j).cells.length≤1000
theorem GR:MY:=by
 intro file pre r trust S h
 obtain ⟨_,_,foot,parts,footer,hok⟩:=Ux h
 have hp:=hok.plan
 simp only [qM,Bool.and_eq_true,decide_eq_true_eq] at hp
 have hh:=hok.heads
 simp only [jX,Bool.and_eq_true,decide_eq_true_eq] at hh
 refine ⟨by omega,fun j hj=>?_⟩
 have hml:=qV hok.mods
 unfold qi
 split
 ·exact Nat.zero_le _
 ·split
  ·exact Nat.zero_le _
  ·rename_i cells hc
   have:=(Dw pre r (jf S.cols j).kind (jf S.cols j).key (R:=S.rows) (C:=S.cols.length) (G:=S.plan.group.toNat) (P:=S.plan.page.toNat) (c:=j) hj (by omega) (by omega) (M:=S.mods) hml (i:=(qr S).length) (cells:=cells) (by
    show jI _ _ _ _ _ _ ((qr S).take _) (S.mods.take _)=_
    rw [List.take_length,← hml,List.take_length]
    exact hc)).1
   have:=hok.rows
   simp only
   omega
end
end Go.Proofs.YthhpbhpfagoapabGreat
