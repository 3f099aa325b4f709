import Derived.Test.YthhpbhpfagoapabGreatJAA
import Derived.Test.YthhpbhpfagoapabGreatJAS
import Derived.ProofKit
import Derived.OpenShut
import Derived.Deep.Slices
import Derived.Deep.Strs
import Derived.SizedLaws
import Derived.Test.YthhpbhpfagoapabGreatJBK
import Derived.Lib.AppendZeros
namespace Go.Proofs.YthhpbhpfagoapabGreat
set_option linter.unusedVariables false
set_option linter.unusedSimpArgs false
set_option maxRecDepth 100000
set_option maxHeartbeats 16000000
section
open Go.RowKit
structure BytesAt (w:World) (g:Nat) (l:List UInt8):Prop where
 lt:g < w.heap.size
 cell:∀ j (h:j < l.length),w.cell? ⟨g,j,none⟩=some (.int .u8 ((l[j]).toNat:Int))
 free:∀ j,j < l.length→w.frozen? ⟨g,j,none⟩=false
theorem BytesAt.set {w:World} {g:Nat} {l:List UInt8} (h:BytesAt w g l) (i:Nat) (hi:i < l.length) (u:UInt8):BytesAt (w.setCell ⟨g,i,none⟩ (.int .u8 (u.toNat:Int))) g (l.set i u):=by
 refine ⟨by simpa using h.lt,fun j hj=>?_,fun j hj=>?_⟩
 ·have hj':j < l.length:=by simpa using hj
  by_cases e:j=i
  ·subst e
   rw [List.getElem_set_self]
   exact World.cell?_setCell_same _ _ _ (h.cell j hj')
  ·rw [List.getElem_set_ne (fun e'=>e e'.symm),World.cell?_setCell_other _ _ _ _ (by intro h;simp only [Addr.mk.injEq] at h;omega)]
   exact h.cell j hj'
 ·have hj':j < l.length:=by simpa using hj
  rw [World.frozen?_setCell]
  exact h.free j hj'
theorem BytesAt.later {w w':World} {g:Nat} {l:List UInt8} (h:BytesAt w g l) (hb:Below w.heap.size w w'):BytesAt w' g l :=
 ⟨Nat.lt_of_lt_of_le h.lt hb.size,fun j hj=>(hb.cell (p:=⟨g,j,none⟩) h.lt).trans (h.cell j hj),fun j hj=>(hb.frozen (p:=⟨g,j,none⟩) h.lt).trans (h.free j hj)⟩
end
section
open Go.RowKit
theorem VQ (c:Int):xI (jV c 0)=true∧(∀ n:Int,1≤n→n≤5→jw (jV c 0) n=true)∧(jV c 0).length=5∧∀ x ∈ jV c 0,CX x:=by
 have hz:∀ n,qK 0 n=false:=by
  intro n
  have h:∀ x:Int,bits .and .i64 0 x=0:=by
   intro x
   show IntKind.i64.wrap ((BitVec.ofInt 64 0 &&& BitVec.ofInt 64 x).toNat:Nat)=0
   simp
   decide
  unfold qK
  rw [h]
  rfl
 have e:jV c 0=[⟨1,xw c 1⟩,⟨2,xw c 2⟩,⟨3,xw c 3⟩,⟨4,xw c 4⟩,⟨5,xw c 5⟩]:=by
  simp [jV,JK,hz]
 rw [e]
 have l:=fun n=>Zn c n
 refine ⟨?_,?_,rfl,?_⟩
 ·simp [xI,XX,Xh,jw,l]
 ·intro n h1 h5
  have:n=1∨n=2∨n=3∨n=4∨n=5:=by omega
  rcases this with rfl|rfl|rfl|rfl|rfl<;>simp [jw]
 ·intro x hx
  simp only [List.mem_cons,List.not_mem_nil,or_false] at hx
  rcases hx with rfl|rfl|rfl|rfl|rfl<;>exact ⟨by rw [l];decide,by dsimp only;omega,by dsimp only;omega⟩
theorem Yy {raw:List Int} {pre:List UInt8} {c:Int} {t:List ColB} (hlen:t.length=Jj raw) (ht:∀ k (hk:k < t.length),(t[k]).name=Xq k∧(t[k]).kind=Xm raw k∧(t[k]).key=qj (atB raw (10+k)) 5)
  (hc:∀ x ∈ t,x.cells.length=qB raw∧∀ y ∈ x.cells,xh x.kind y=true∧Xy y.int):GoodJ ⟨t,Uz raw,pre.take 20,qj (atB raw 2) 65536⟩ (jV c 0):=by
 obtain ⟨h1,h4⟩:=Ka raw
 have hr:=Kc raw
 have hd:=qD (atB raw 2) 65536 (by decide)
 obtain ⟨r1,r2,_,_⟩:=VQ c
 have hkey:∀ k,0≤qj (atB raw (10+k)) 5∧qj (atB raw (10+k)) 5 < 5:=fun k=>qD _ 5 (by decide)
 refine ⟨Lv t (qB raw) (by omega) (by omega) (by omega) (fun k hk=>?_) hc,Mp raw,?_,⟨by simp only;omega,by simp only;omega⟩,r1,?_⟩
 ·obtain ⟨a,b,d⟩:=ht k hk
  have:=hkey k
  exact ⟨a,by rw [b];exact Ke raw k,by rw [d];omega,by rw [d];omega⟩
 ·simp only [List.length_take];omega
 ·simp only [KC,Bool.or_eq_false_iff,Bool.not_eq_false',List.any_eq_false,Bool.and_eq_true,decide_eq_true_eq,Bool.not_eq_true']
  refine ⟨r2 5 (by decide) (by decide),fun x hx=>?_⟩
  obtain ⟨k,hk,rfl⟩:=List.mem_iff_getElem.1 hx
  rw [(ht k hk).2.2]
  have:=hkey k
  rintro ⟨h0,h⟩
  rw [r2 _ (by omega) (by omega)] at h
  cases h
theorem JM (raw:List Int) (pre:List UInt8) (c:Int) (hr:∀ x ∈ raw,Xy x):GoodJ (qo raw pre) (jV c 0):=by
 refine Yy (XE _ _) (fun k hk=>?_) (fun x hx=>?_)
 ·rw [ZM];exact ⟨rfl,rfl,rfl⟩
 ·obtain ⟨k,hk,rfl⟩:=List.mem_iff_getElem.1 hx
  rw [ZM]
  refine ⟨by simp [Zv],fun y hy=>?_⟩
  simp only [Zv,List.mem_map,List.mem_range] at hy
  obtain ⟨m,_,rfl⟩:=hy
  exact IP _ _ (Ke raw k) (YZ raw _ hr)
end
section
open Go.RowKit
theorem YO {w:World} {base n:Nat} {v:Value} {c without:Int} (h:w.ownsRow base 68 2 v n (Kr (JK c without 5))) (hok:∀ x ∈ jV c without,CX x) :
  ∃ a cap,v=.slice a (jV c without).length cap∧LiesK w a (jV c without):=by
 have hk:Kr (JK c without 5)=(jV c without).flatMap fun x=>[.int .i64 x.number,strB x.secret]:=by
  simp [Kr,jV,List.flatMap_map]
 rw [hk] at h
 have hlen:=Ud (fun x:KeyB=>[Value.int .i64 x.number,strB x.secret]) 2 (fun _=>rfl) (jV c without)
 have hn:n=(jV c without).length:=by have:=h.1;rw [hlen] at this;omega
 subst hn
 rcases h.2 with ⟨rfl,h0⟩|⟨g,cap,cur,rfl,_,hg,_⟩
 ·refine ⟨none,0,by rw [h0],hok,fun hne=>absurd (List.eq_nil_of_length_eq_zero h0) hne⟩
 ·refine ⟨_,_,rfl,hok,fun _=>⟨g,0,rfl,(h.lt g rfl).2,fun j hj=>?_⟩⟩
  have f1:=Jw (fun x:KeyB=>[Value.int .i64 x.number,strB x.secret]) 2 (fun _=>rfl) (jV c without) j 0 hj (by decide)
  have f2:=Jw (fun x:KeyB=>[Value.int .i64 x.number,strB x.secret]) 2 (fun _=>rfl) (jV c without) j 1 hj (by decide)
  simp only [Nat.zero_add]
  exact ⟨by rw [h.cellAt (j*2) (by omega)];exact f1,by rw [h.cellAt (j*2+1) (by omega)];exact f2⟩
theorem Mh {w:World} {base:Nat} {tv:Value} {P:List (ColB × Value)} {j:JobB} {r:List KeyB} (h:RowsT w base tv P) (hP:P.map Prod.fst=j.table) (hg:GoodJ j r) :
  ∃ a cap,tv=.slice a j.table.length cap∧LiesJ w a cap j:=by
 have hlen:P.length=j.table.length:=by rw [← hP,List.length_map]
 obtain ⟨a,cap,rfl,hc,hl⟩:=h.lies (by
  intro p hp
  obtain ⟨k,hk,rfl⟩:=List.mem_iff_getElem.1 hp
  have hk':k < j.table.length:=by omega
  have e:(P[k]).1=j.table[k]:=by
   have:(P.map Prod.fst)[k]'(by rw [List.length_map];exact hk)=j.table[k]:=by simp only [hP]
   simpa using this
  obtain ⟨n1,n2,n3,n4⟩:=hg.table.head k hk'
  obtain ⟨c1,c2,c3⟩:=hg.table.cells k hk'
  rw [e]
  refine ⟨⟨by have:=(Ku n1).2;unfold maxLen;omega,⟨by omega,by omega⟩,⟨by omega,by omega⟩⟩,fun x hx=>?_,by omega⟩
  obtain ⟨s1,s2,s3⟩:=c3 x hx
  exact ⟨s1,s2,by unfold maxLen;omega⟩)
 rw [hP] at hl
 have hp:=hg.sizes
 have hpl:=hg.plan
 simp only [qM,Bool.and_eq_true,decide_eq_true_eq] at hpl
 have h6:=hg.table.few.2
 have hd:=hg.draw
 have hpr:=hg.pre
 exact ⟨a,cap,by rw [hlen],hl,by unfold maxLen;omega,by omega,by unfold maxLen;omega,⟨by omega,by omega⟩,⟨by omega,by omega⟩,⟨by omega,by omega⟩,⟨by omega,by omega⟩⟩
end
section
open Go.RowKit
abbrev jobC (tv:Value) (j:JobB):Array Value:=#[tv,.int .i64 j.plan.group,.int .i64 j.plan.page,.int .i64 j.plan.foot,.bool j.plan.told,strB j.pre,.int .i64 j.draw]
theorem ZN {w:World} {base n tc:Nat} {ta:Option Addr} {P:List (ColB × Value)} {j:JobB} {r:List KeyB} (h:RowsT w base (.slice ta n tc) P) (hP:P.map Prod.fst=j.table) (hg:GoodJ j r):LiesJ w ta tc j:=by
 obtain ⟨a,cap,e,hl⟩:=Mh h hP hg
 simp only [Value.slice.injEq] at e
 obtain ⟨rfl,_,rfl⟩:=e
 exact hl
abbrev Box7 (p:Nat) (tv:Value) (j:JobB) (w:World):Prop :=
 w.cell? ⟨p,0,none⟩=some tv∧w.cell? ⟨p,1,none⟩=some (.int .i64 j.plan.group)∧w.cell? ⟨p,2,none⟩=some (.int .i64 j.plan.page)∧w.cell? ⟨p,3,none⟩=some (.int .i64 j.plan.foot)∧w.cell? ⟨p,4,none⟩=some (.bool j.plan.told)∧w.cell? ⟨p,5,none⟩=some (strB j.pre)∧w.cell? ⟨p,6,none⟩=some (.int .i64 j.draw)
theorem Ky {p:Nat} {tv:Value} {j:JobB} {w w':World} (h:Box7 p tv j w) (hp:p < w.heap.size) (hb:Below w.heap.size w w'):Box7 p tv j w':=by
 obtain ⟨h0,h1,h2,h3,h4,h5,h6⟩:=h
 exact ⟨(hb.cell (p:=⟨p,_,none⟩) hp).trans h0,(hb.cell (p:=⟨p,_,none⟩) hp).trans h1,(hb.cell (p:=⟨p,_,none⟩) hp).trans h2,(hb.cell (p:=⟨p,_,none⟩) hp).trans h3,(hb.cell (p:=⟨p,_,none⟩) hp).trans h4,(hb.cell (p:=⟨p,_,none⟩) hp).trans h5,(hb.cell (p:=⟨p,_,none⟩) hp).trans h6⟩
end
section
open Go.ChangeShapes Go.WideShapes Go.ChangeAt Go.RowKit Go.Deep
theorem Yh {w:World} {b o:Nat} {v:Value} (h:w.cell? ⟨b,o,none⟩=some v):b < w.heap.size:=by
 rcases Nat.lt_or_ge b w.heap.size with h1|h1
 ·exact h1
 ·simp [World.cell?,Array.getElem?_eq_none h1] at h
theorem VT {x:Int} (h:(Lit.int .i64 x).wf=true):-9223372036854775808≤x∧x≤9223372036854775807:=by
 simp [Lit.wf,IntKind.min,IntKind.max,IntKind.signed,IntKind.bits] at h
 exact ⟨by omega,by omega⟩
end
section
open Go.RowKit
theorem Sx (n:Nat) (hn:0 < n) (hn2:n≤1000) (w:World) :
  Calls Tryz.prog 114 #[.slice none 0 0,.int .i64 (n:Int)] w fun e w'=>∃ v,e=.returned v∧w'.ownsRow w.heap.size 75 6 v 0 []∧Below w.heap.size w w':=by
 obtain ⟨i0,hi,hz0,hz1,hz2⟩:=info_parts Tryz.infoPiece
 have hneg:¬ ((n:Int) < 0):=by omega
 have hpos:(0:Int) < (n:Int):=by omega
 have HR:=hid (Lib.run_append_nil_zeros (P:=Tryz.prog) w 155 3 155 75 i0 _ .i64 .i64 Tryz.underlying155 Tryz.underlying3 hi hz0 n hn (by omega) (by omega) (by rw [hz2];omega))
 have hge:=grownCap_ge w n 0 75
 have hcm:=grownCap_le_maxLen w n 0 75 (by unfold maxLen;omega)
 generalize hgc:grownCap w n 0 75=gc at *
 clear hgc
 go_enter Tryz.func114,Tryz.ntmps114
 go_wp2_with (at_builtin;refine Lib.wpList_append_run _ rfl _ _ _ _ rfl _ _ rfl rfl _ _ HR.out ?_)
 go_ret
 refine ⟨_,rfl,World.ownsRow.drew (World.ownsRow_made w _ gc (Nat.le_refl _) hcm ?_),?_⟩
 ·simp only [Array.size_append,size_zeroCells]
  have:(#[.string ⟨#[]⟩,.int .i64 0,.int .i64 0,.int .i64 0,.string ⟨#[]⟩,.string ⟨#[]⟩]:Array Value).size=6:=rfl
  rw [this]
  omega
 ·have h:=(Below.refl w.heap.size w).alloc (Nat.le_refl _) (.cells (Builtin.zeroCells #[.string ⟨#[]⟩,.int .i64 0,.int .i64 0,.int .i64 0,.string ⟨#[]⟩,.string ⟨#[]⟩] n++Builtin.zeroCells #[.string ⟨#[]⟩,.int .i64 0,.int .i64 0,.int .i64 0,.string ⟨#[]⟩,.string ⟨#[]⟩] (gc - n)) 75)
  exact ⟨h.os,h.tape,h.output,h.size,h.block⟩
def Cs (n1:Nat):Nat→Nat
 | 0=>0
 | 1=>n1
 | _=>n1+1
theorem Mj (b g1 n1 c1 g2:Nat) (xs1 xs2:List Value) (w:World) (hn:0 < n1) (hn2:n1≤60) (hb:b < w.heap.size) (hc0:w.cell? ⟨b,0,none⟩=some (.slice (some ⟨g1,0,none⟩) n1 c1)) (hc1:w.cell? ⟨b,1,none⟩=some (.slice (some ⟨g2,0,none⟩) 1 1))
  (hl1:xs1.length=n1*6) (hl2:xs2.length=6) (hg1:g1 < w.heap.size) (hg2:g2 < w.heap.size) (h1:∀ j u,xs1[j]?=some u→w.cell? ⟨g1,j,none⟩=some u) (h2:∀ j u,xs2[j]?=some u→w.cell? ⟨g2,j,none⟩=some u) (ho1:∀ u ∈ xs1,u.oneCell'=true) (ho2:∀ u ∈ xs2,u.oneCell'=true) :
  Calls Tryz.prog 86 #[.slice (some ⟨b,0,none⟩) 2 2] w fun e w'=>∃ v,e=.returned v∧w'.ownsRow w.heap.size 75 6 v (n1+1) (xs1++xs2)∧Below w.heap.size w w':=by
 obtain ⟨i0,hi,hz0,hz1,hz2⟩:=info_parts Tryz.infoPiece
 have HN1:Hid (∀ w',Below w.heap.size w w'→∀ j u,xs1[j]?=some u→w'.cell? ((⟨g1,0,none⟩:Addr).add j)=some u):=fun w' hb' j u hu=>by
  rw [show (⟨g1,0,none⟩:Addr).add j=⟨g1,j,none⟩ by unfold Addr.add;split<;>simp_all]
  exact (hb'.cell (p:=⟨g1,j,none⟩) hg1).trans (h1 j u hu)
 have HN2:Hid (∀ w',Below w.heap.size w w'→∀ j u,xs2[j]?=some u→w'.cell? ((⟨g2,0,none⟩:Addr).add j)=some u):=fun w' hb' j u hu=>by
  rw [show (⟨g2,0,none⟩:Addr).add j=⟨g2,j,none⟩ by unfold Addr.add;split<;>simp_all]
  exact (hb'.cell (p:=⟨g2,j,none⟩) hg2).trans (h2 j u hu)
 have HL1:=hid hl1
 have HL2:Hid (xs2.length=1*6):=hl2
 have HO1:=hid ho1
 have HO2:=hid ho2
 have HC0:=hid hc0
 have HC1:=hid hc1
 clear hl1 hl2 h1 h2 ho1 ho2 hc0 hc1
 go_enter Tryz.func86,Tryz.ntmps86
 go_wp2
 go_loopw [3,11] (fun s i wr=>∃ k:Nat,k≤2∧i=.int .i64 (k:Int)∧s=.int .i64 ((Cs n1 k:Nat):Int)∧w=wr) (fun _ i _=>2 - (intOf i).toNat)
 case atStart=>exact ⟨0,by omega,rfl,rfl,rfl⟩
 case round =>
  obtain ⟨k,hk,rfl,rfl,rfl⟩:=hrel
  rcases (show k=0∨k=1∨k=2 by omega) with rfl|rfl|rfl
  ·have c0:=HC0.out
   have e0:((Cs n1 0:Nat):Int)=0:=rfl
   rw [e0]
   go_wp2
   go_roundw
   case rel=>exact ⟨1,by omega,by go_num,rfl,by simp⟩
   case measure=>simp [intOf]
  ·have c0:=HC1.out
   have e0:((Cs n1 1:Nat):Int)=(n1:Int):=rfl
   rw [e0]
   have hw:IntKind.i64.wrap ((n1:Int)+1)=(n1:Int)+1:=by rw [IntKind.wrap_i64];omega
   have hw2:¬ ((n1:Int)+1 < 0):=by omega
   go_wp2
   go_roundw
   case rel=>exact ⟨2,by omega,by go_num,rfl,by simp⟩
   case measure=>simp [intOf]
  ·have e0:((Cs n1 2:Nat):Int)=((n1+1:Nat):Int):=rfl
   rw [e0]
   clear e0
   have HG:=hid (Sx (n1+1) (by omega) (by omega) w)
   generalize hm:n1+1=m at *
   have Hm:=hid hm
   have hmb:m≤61:=by omega
   clear hm
   go_wp2_with fail
   refine HG.out.mono ?_
   clear HG
   rintro e w1 ⟨v,rfl,hown,hb1⟩
   obtain ⟨va,vc,rfl⟩:=jL hown
   have HOwn:=hid hown
   have HB1:=hid hb1
   clear hown hb1
   go_wp2
   go_loopw [6,27] (fun s i wq=>∃ k:Nat,k≤2∧i=.int .i64 (k:Int)∧wq.ownsRow w.heap.size 75 6 s (Cs n1 k) (if k=0 then [] else if k=1 then xs1 else xs1++xs2)∧Below w.heap.size w wq) (fun _ i _=>2 - (intOf i).toNat)
   case atStart=>exact ⟨0,by omega,rfl,HOwn.out,HB1.out⟩
   case round =>
    obtain ⟨k,hk,rfl,hown,hB⟩:=hrel
    have HOwn2:=hid hown
    have HB:=hid hB
    clear hown HOwn
    have hbs:=HB.out.size
    rcases (show k=0∨k=1∨k=2 by omega) with rfl|rfl|rfl
    ·have c0:=(hB.cell (p:=⟨b,0,none⟩) hb).trans HC0.out
     have HO:Hid (wr.ownsRow w.heap.size 75 6 u6 0 []):=HOwn2.out
     clear hB HOwn2
     go_wp2_with (at_builtin;refine wpList_append_own _ rfl (.tmp 31) (.tmp 32) 155 rfl w.heap.size 75 i0 _ 6 72 Tryz.underlying155 hi hz0 hz1 hz2 rfl (by decide) _ 0 [] rfl HO.out ⟨g1,0,none⟩ n1 c1 xs1 rfl HL1.out (HN1.out _ HB.out) HO1.out (by unfold maxLen;omega) (by omega) hbs ?_)
     intro v2 w5 hown2 hgr2 _
     have HB5:=hid (HB.out.grown hgr2 hbs (fun k hk=>(HO.out.lt k hk).1))
     have HO5:Hid (w5.ownsRow w.heap.size 75 6 v2 (Cs n1 1) xs1):=hown2
     clear hown2 hgr2 HO c0
     go_wp2
     go_roundw
     case rel=>exact ⟨1,by omega,by go_num,HO5.out,HB5.out⟩
     case measure=>simp [intOf]
    ·have c0:=(hB.cell (p:=⟨b,1,none⟩) hb).trans HC1.out
     have HO:Hid (wr.ownsRow w.heap.size 75 6 u6 n1 xs1):=HOwn2.out
     clear hB HOwn2
     go_wp2_with (at_builtin;refine wpList_append_own _ rfl (.tmp 31) (.tmp 32) 155 rfl w.heap.size 75 i0 _ 6 72 Tryz.underlying155 hi hz0 hz1 hz2 rfl (by decide) _ n1 xs1 rfl HO.out ⟨g2,0,none⟩ 1 1 xs2 rfl HL2.out (HN2.out _ HB.out) HO2.out (by unfold maxLen;omega) (by omega) hbs ?_)
     intro v2 w5 hown2 hgr2 _
     have HB5:=hid (HB.out.grown hgr2 hbs (fun k hk=>(HO.out.lt k hk).1))
     have HO5:Hid (w5.ownsRow w.heap.size 75 6 v2 (Cs n1 2) (xs1++xs2)):=hown2
     clear hown2 hgr2 HO c0
     go_wp2
     go_roundw
     case rel=>exact ⟨2,by omega,by go_num,HO5.out,HB5.out⟩
     case measure=>simp [intOf]
    ·have HO:Hid (wr.ownsRow w.heap.size 75 6 u6 (n1+1) (xs1++xs2)):=HOwn2.out
     clear hB HOwn2
     obtain ⟨ua,uc,rfl⟩:=jL HO.out
     go_wp2
     go_ret
     exact ⟨_,rfl,by rw [← Hm.out];exact HO.out,HB.out⟩
end
end Go.Proofs.YthhpbhpfagoapabGreat
