import Derived.Test.YthhpbhpfagoapabGreatJAW
import Derived.Test.YthhpbhpfagoapabGreatJAT
import Derived.Test.YthhpbhpfagoapabGreatWFoot
import Derived.Test.YthhpbhpfagoapabGreatWBounds
namespace Go.Proofs.YthhpbhpfagoapabGreat
set_option linter.unusedVariables false
set_option linter.unusedSimpArgs false
set_option maxRecDepth 100000
set_option maxHeartbeats 16000000
open Go.RowKit
section
theorem jq {w w':World} {B p:Nat} (h:w.grownBy w' (some p)) (hp:B≤p) (hB:B≤w.heap.size):Below B w w' :=
 ⟨h.os,h.tape,h.output,h.size,fun k hk=>h.block k (by omega) (fun e=>by cases e;omega)⟩
theorem Zl (s:List UInt8) (w:World) :
  Calls Tryz.prog 71 #[strB s] w fun e w'=>e=.returned (.pointer (some ⟨w.heap.size,0,none⟩))∧qv w' w.heap.size s s∧Below w.heap.size w w':=by
 go_enter Tryz.func71,Tryz.ntmps71
 go_wp2
 go_ret
 exact ⟨rfl,⟨0,heap_alloc_new w _,Nat.zero_le _,rfl⟩,(Below.refl _ _).alloc (Nat.le_refl _) _⟩
theorem Na {a b:List UInt8} (h:a≠b):(a == b)=false:=by simp [h]
theorem Am (p:Nat) (s rest:List UInt8) (w:World) (hs:s.length≤maxLen) (hp:qv w p s rest) :
  Calls Tryz.prog 70 #[.pointer (some ⟨p,0,none⟩)] w (UV (fun n:Nat=>n≤65535) (fun n=>qQ (n:Int)++[67,70]) (fun n=>.int .i64 (n:Int)) p s rest w):=by
 have Hs:=hid hs
 have Hp:=hid hp
 clear hs hp
 go_enter Tryz.func70,Tryz.ntmps70
 go_wp2_with fail
 refine (Vk p s rest w Hs.out Hp.out).mono ?_
 rintro e w1 ⟨hg1,⟨hr,rfl⟩|⟨a,b,r,hr,rfl,hp1⟩⟩
 ·have HN:Hid (∀ (n:Nat) q,n≤65535→rest≠(qQ (n:Int)++[67,70])++q):=by
   rintro n q hn rfl
   simp only [List.length_append,jy] at hr
   omega
  have HG:=hid hg1
  clear hr hg1
  go_wp2
  exact ⟨rfl,HG.out,.inl ⟨rfl,HN.out⟩⟩
 ·have HG1:=hid hg1
  have Hp1:=hid hp1
  have hab:a.toNat+256*b.toNat≤65535:=by have:=a.toNat_lt;have:=b.toNat_lt;omega
  have HX:Hid (∀ (n:Nat) q,n≤65535→rest=(qQ (n:Int)++[67,70])++q→r.take 2=[67,70]):=by
   intro n q hn h
   rw [hr,List.append_assoc] at h
   have h':[a,b]++r=qQ (n:Int)++([67,70]++q):=h
   obtain ⟨_,h2⟩:=List.append_inj h' (by rw [jy];rfl)
   rw [h2];rfl
  have HY:Hid (r.take 2=[67,70]→rest=(qQ ((a.toNat+256*b.toNat:Nat):Int)++[67,70])++r.drop 2):=by
   intro h
   rw [XZ,hr,← h,List.append_assoc,List.take_append_drop]
   rfl
  clear hr hg1 hp1
  generalize a.toNat+256*b.toNat=n at *
  go_wp2_with fail
  refine (Jn p s r 2 w1 Hs.out (by omega) Hp1.out).mono ?_
  rintro e w2 ⟨hg2,⟨hlt,rfl⟩|⟨hle,rfl,hp2⟩⟩
  ·have HG2:=hid (jf HG1.out hg2)
   have HN:Hid (∀ (n:Nat) q,n≤65535→rest≠(qQ (n:Int)++[67,70])++q):=by
    intro n q hn h
    have:=congrArg List.length (HX.out n q hn h)
    rw [List.length_take] at this
    simp at this
    omega
   clear hg2
   go_wp2
   exact ⟨rfl,HG2.out,.inl ⟨rfl,HN.out⟩⟩
  ·have HG2:=hid (jf HG1.out hg2)
   have Hp2:=hid hp2
   clear hg2 hp2
   generalize r.take 2=T at *
   by_cases hT:T=[67,70]
   ·have HY2:=hid (HY.out hT)
    subst hT
    go_wp2_with fail
    refine (qe _).mono ?_
    rintro e w3 ⟨rfl,rfl⟩
    go_wp2
    go_ret
    exact ⟨HG2.out,.inr ⟨n,_,hab,rfl,Hp2.out,HY2.out⟩⟩
   ·have hne:=Na hT
    go_wp2_with fail
    refine (qS _).mono ?_
    rintro e w3 ⟨rfl,rfl⟩
    have HN:Hid (∀ (n:Nat) q,n≤65535→rest≠(qQ (n:Int)++[67,70])++q):=fun n q hn h=>hT (HX.out n q hn h)
    clear hne
    go_wp2
    exact ⟨rfl,HG2.out,.inl ⟨rfl,HN.out⟩⟩
def QE (told:Bool) (ft:Nat):List UInt8:=[67,70]++[if told=true then 79 else 69]++[byB (ft:Int)]
theorem Lm {w:World} {q:Nat} {c0 c1 c2 c3 c4 c5 c6 c7 c8 c9 v:Value} {t:TypeId} (h:w.heap[q]?=some (.cells #[c0,c1,c2,c3,c4,c5,c6,c7,c8,c9] t (0,0))):(w.setCell ⟨q,0,none⟩ v).heap[q]?=some (.cells #[v,c1,c2,c3,c4,c5,c6,c7,c8,c9] t (0,0)):=by
 rw [heap_setCell_same w q 0 _ t v h];rfl
theorem LP {w:World} {q:Nat} {c0 c1 c2 c3 c4 c5 c6 c7 c8 c9 v:Value} {t:TypeId} (h:w.heap[q]?=some (.cells #[c0,c1,c2,c3,c4,c5,c6,c7,c8,c9] t (0,0))):(w.setCell ⟨q,1,none⟩ v).heap[q]?=some (.cells #[c0,v,c2,c3,c4,c5,c6,c7,c8,c9] t (0,0)):=by
 rw [heap_setCell_same w q 1 _ t v h];rfl
theorem Lx {w:World} {q:Nat} {c0 c1 c2 c3 c4 c5 c6 c7 c8 c9 v:Value} {t:TypeId} (h:w.heap[q]?=some (.cells #[c0,c1,c2,c3,c4,c5,c6,c7,c8,c9] t (0,0))):(w.setCell ⟨q,2,none⟩ v).heap[q]?=some (.cells #[c0,c1,v,c3,c4,c5,c6,c7,c8,c9] t (0,0)):=by
 rw [heap_setCell_same w q 2 _ t v h];rfl
theorem qr (w:World) (q i:Nat) (v:Value):w.grownBy (w.setCell ⟨q,i,none⟩ v) (some q) :=
 ⟨rfl,rfl,rfl,by simp,fun k _ hk=>heap_setCell_other w ⟨q,i,none⟩ k v (fun e=>hk (by simp [e]))⟩
theorem xA {w:World} {q:Nat} {c0 c1 c2 c3 c4 c5 c6 c7 c8 c9:Value} {t:TypeId} (h:w.heap[q]?=some (.cells #[c0,c1,c2,c3,c4,c5,c6,c7,c8,c9] t (0,0))) :
  (w.cell? ⟨q,0,none⟩=some c0∧w.cell? ⟨q,1,none⟩=some c1∧w.cell? ⟨q,2,none⟩=some c2∧w.cell? ⟨q,3,none⟩=some c3∧w.cell? ⟨q,4,none⟩=some c4∧w.cell? ⟨q,5,none⟩=some c5∧w.cell? ⟨q,6,none⟩=some c6∧w.cell? ⟨q,7,none⟩=some c7∧w.cell? ⟨q,8,none⟩=some c8∧w.cell? ⟨q,9,none⟩=some c9)∧(∀ j,w.frozen? ⟨q,j,none⟩=false) :=
 ⟨⟨by rw [jb h];rfl,by rw [jb h];rfl,by rw [jb h];rfl,by rw [jb h];rfl,by rw [jb h];rfl,by rw [jb h];rfl,by rw [jb h];rfl,by rw [jb h];rfl,by rw [jb h];rfl,by rw [jb h];rfl⟩,
  fun j=>frozen_of_row w q j _ t h⟩
theorem ES (p q B:Nat) (s rest:List UInt8) (c0 c1 c2 c3 c4 c5 c6 c7 c8 c9:Value) (w:World) (hs:s.length≤maxLen) (hp:qv w p s rest) (hq:w.heap[q]?=some (.cells #[c0,c1,c2,c3,c4,c5,c6,c7,c8,c9] 77 (0,0))) (hpq:p≠q) (hBp:B≤p) (hBq:B≤q) :
  Calls Tryz.prog 72 #[.pointer (some ⟨q,0,none⟩),.pointer (some ⟨p,0,none⟩)] w fun e w'=>Below B w w'∧((e=gaveUp∧∀ (told:Bool) (ft:Nat) (r:List UInt8),1≤ft→ft≤9→rest≠QE told ft++r) ∨
   ∃ (told:Bool) (ft:Nat) (r:List UInt8),1≤ft∧ft≤9∧e=.returned (.tuple #[])∧rest=QE told ft++r∧w'.heap[q]?=some (.cells #[.int .i64 (ft:Int),.bool told,c2,c3,c4,c5,c6,c7,c8,c9] 77 (0,0))):=by
 have Hs:=hid hs
 have Hp:=hid hp
 have Hq:=hid hq
 have hplt:=xD hp
 have hqlt:=(Array.getElem?_eq_some_iff.1 hq).1
 have HX:Hid (∀ (told:Bool) (ft:Nat) (r:List UInt8),1≤ft→ft≤9→rest=QE told ft++r→rest.take 2=[67,70]∧(rest.drop 2).take 1=[if told=true then 79 else 69]∧(rest.drop 2).drop 1=byB (ft:Int) :: r):=by
  rintro told ft r h1 h9 rfl
  exact ⟨rfl,rfl,rfl⟩
 clear hs hp hq
 go_enter Tryz.func72,Tryz.ntmps72
 go_wp2_with fail
 refine (Jn p s rest 2 w Hs.out (by omega) Hp.out).mono ?_
 rintro e w1 ⟨hg1,⟨hlt,rfl⟩|⟨hle,rfl,hp1⟩⟩
 ·have HB:=hid (jq hg1 hBp (by omega))
  clear hg1
  go_wp2
  exact ⟨rfl,HB.out,.inl ⟨rfl,fun told ft r h1 h9 h=>by
   have:=congrArg List.length (HX.out told ft r h1 h9 h).1
   rw [List.length_take] at this
   simp at this
   omega⟩⟩
 have HB1:=hid (jq hg1 hBp (by omega))
 have Hq1:=hid (jk hg1 Hq.out (Ne.symm hpq))
 have Hp1:=hid hp1
 have hs1:=hg1.size
 clear hg1 hp1
 have HT0:Hid (rest.take 2=rest.take 2):=rfl
 generalize hT:rest.take 2=T at *
 have HT:=hid hT
 clear hT HT0
 by_cases hT2:T≠[67,70]
 ·have hne:=Na hT2
  go_wp2_with fail
  refine (qS _).mono ?_
  rintro e w2 ⟨rfl,rfl⟩
  clear hne
  go_wp2
  exact ⟨rfl,HB1.out,.inl ⟨rfl,fun told ft r h1 h9 h=>hT2 (HX.out told ft r h1 h9 h).1⟩⟩
 have hT3:=Decidable.not_not.1 hT2
 clear hT2
 subst hT3
 go_wp2_with fail
 refine (qe _).mono ?_
 rintro e w2 ⟨rfl,rfl⟩
 go_wp2_with fail
 refine (Jn p s (rest.drop 2) 1 w2 Hs.out (by omega) Hp1.out).mono ?_
 rintro e w3 ⟨hg3,⟨hlt,rfl⟩|⟨hle3,rfl,hp3⟩⟩
 ·have HB3:=hid (HB1.out.trans (jq hg3 hBp (by omega)))
  clear hg3
  go_wp2
  exact ⟨rfl,HB3.out,.inl ⟨rfl,fun told ft r h1 h9 h=>by
   have:=congrArg List.length (HX.out told ft r h1 h9 h).2.1
   rw [List.length_take] at this
   simp only [List.length_cons,List.length_nil] at this
   omega⟩⟩
 have HB3:=hid (HB1.out.trans (jq hg3 hBp (by omega)))
 have Hq3:=hid (jk hg3 Hq1.out (Ne.symm hpq))
 have Hp3:=hid hp3
 have hs3:=hg3.size
 clear hg3 hp3
 generalize hU:(rest.drop 2).take 1=U at *
 have HU:=hid hU
 clear hU
 have fin:∀ (told:Bool),U=[if told=true then 79 else 69]→U≠[]:=fun told h=>by rw [h];simp
 by_cases hO:¬ ∃ told:Bool,U=[if told=true then 79 else 69]
 ·have n1:=Na (show U≠[79] from fun h=>hO ⟨true,h⟩)
  have n2:=Na (show U≠[69] from fun h=>hO ⟨false,h⟩)
  go_wp2_with fail
  refine (qS _).mono ?_
  rintro e w4 ⟨rfl,rfl⟩
  clear n1 n2
  go_wp2
  exact ⟨rfl,HB3.out,.inl ⟨rfl,fun told ft r h1 h9 h=>hO ⟨told,(HX.out told ft r h1 h9 h).2.1⟩⟩⟩
 obtain ⟨told,hUt⟩:=Classical.not_not.1 hO
 have HUt:=hid hUt
 have hU1:(U == [79])=told:=by rw [hUt];cases told<;>decide
 have hU2:told=false→(U == [69])=true:=by rintro rfl;rw [hUt];decide
 clear fin hUt hO
 obtain ⟨⟨q0,q1,q2,q3,q4,q5,q6,q7,q8,q9⟩,cf⟩:=xA Hq3.out
 have f1:=cf 1
 clear cf
 have hs4:q < w3.heap.size:=(Array.getElem?_eq_some_iff.1 Hq3.out).1
 have step:∀ w4:World,w4=w3.setCell ⟨q,1,none⟩ (.bool told)→qv w4 p s ((rest.drop 2).drop 1)∧w4.heap[q]?=some (.cells #[c0,.bool told,c2,c3,c4,c5,c6,c7,c8,c9] 77 (0,0))∧Below B w w4∧w4.heap.size=w3.heap.size:=by
  rintro w4 rfl
  exact ⟨zH Hp3.out (qr w3 q 1 _) hpq,LP Hq3.out,HB3.out.trans (jq (qr w3 q 1 _) hBq (by omega)),by simp⟩
 have HST:=hid step
 clear step
 cases told
 all_goals
  (try have hU3:=hU2 rfl)
  go_wp2_with fail
  refine (qe _).mono ?_
  rintro e w4 ⟨rfl,rfl⟩
  go_wp2_with fail
  obtain ⟨hp5,hq5,hB5,hz5⟩:=HST.out _ rfl
  generalize w4.setCell _ _=w5 at *
  have Hq5:=hid hq5
  have HB5:=hid hB5
  clear q0 q1 q2 q3 q4 q5 q6 q7 q8 q9 f1 hq5 hB5 HST
  refine (Zm p s _ w5 Hs.out hp5).mono ?_
  rintro e w6 ⟨hg6,⟨hr,rfl⟩|⟨c,r,hr,rfl,hp6⟩⟩
  ·have HB6:=hid (HB5.out.trans (jq hg6 hBp (by omega)))
   have Hr:=hid hr
   clear hg6 hr
   go_wp2
   exact ⟨rfl,HB6.out,.inl ⟨rfl,fun told ft r h1 h9 h=>by
    have:=(HX.out told ft r h1 h9 h).2.2
    rw [Hr.out] at this
    cases this⟩⟩
  have Hr:=hid hr
  have Hq6:=hid (jk hg6 Hq5.out (Ne.symm hpq))
  have HB6:=hid (HB5.out.trans (jq hg6 hBp (by omega)))
  have lc:=c.toNat_lt
  have hwc:IntKind.i64.wrap (c.toNat:Int)=(c.toNat:Int):=IntWalk.i64_in _ ⟨by omega,by omega⟩
  have hs6:=hg6.size
  clear hg6 hp6 hr
  obtain ⟨⟨q0,q1,q2,q3,q4,q5,q6,q7,q8,q9⟩,cf⟩:=xA Hq6.out
  have f0:=cf 0
  clear cf
  go_wp2_with fail
  have Hq7:=hid (Lm (v:=.int .i64 (c.toNat:Int)) Hq6.out)
  have HB7:=hid (HB6.out.trans (jq (qr w6 q 0 (.int .i64 (c.toNat:Int))) hBq (by omega)))
  refine (Kg _ _).mono ?_
  rintro e w7 ⟨rfl,rfl⟩
  clear q0 q1 q2 q3 q4 q5 q6 q7 q8 q9 f0
  generalize w6.setCell _ _=w7 at *
  by_cases hk:1≤c.toNat∧c.toNat≤9
  ·have hk2:(decide (1≤(c.toNat:Int)) && decide ((c.toNat:Int)≤9))=true:=by simp;omega
   rw [hk2]
   go_wp2_with fail
   refine (qe _).mono ?_
   rintro e w8 ⟨rfl,rfl⟩
   go_wp2
   go_end0
   refine ⟨HB7.out,.inr ⟨_,c.toNat,r,hk.1,hk.2,rfl,?_,Hq7.out⟩⟩
   have hby:byB (c.toNat:Int)=c:=UInt8.toNat_inj.1 (Qw _ (by omega))
   rw [← List.take_append_drop 2 rest,HT.out,← List.take_append_drop 1 (rest.drop 2),HU.out,HUt.out,Hr.out]
   unfold QE
   rw [hby]
   simp
  ·have hk2:(decide (1≤(c.toNat:Int)) && decide ((c.toNat:Int)≤9))=false:=by
    rw [Bool.and_eq_false_iff]
    simp only [decide_eq_false_iff_not]
    omega
   rw [hk2]
   go_wp2_with fail
   refine (qS _).mono ?_
   rintro e w8 ⟨rfl,rfl⟩
   go_wp2
   refine ⟨rfl,HB7.out,.inl ⟨rfl,fun told ft r2 h1 h9 h=>?_⟩⟩
   have:=(HX.out told ft r2 h1 h9 h).2.2
   rw [Hr.out] at this
   simp only [List.cons.injEq] at this
   have h2:=congrArg UInt8.toNat this.1
   rw [Qw _ (by omega)] at h2
   omega
theorem DL {x y:NB} {r q:List UInt8} (hx:Jz x) (hy:Jz y) (h:xI x++r=xI y++q):x=y∧r=q:=by
 unfold xI at h
 simp only [List.append_assoc] at h
 obtain ⟨h1,h2⟩:=List.append_inj h (by rw [jy,jy])
 have hl:=Jm hx.2.2 hy.2.2 h1
 obtain ⟨h3,h4⟩:=List.append_inj h2 (by rw [hx.1,hy.1])
 obtain ⟨h5,h6⟩:=List.append_inj h4 hl
 exact ⟨Prod.ext h3 h5,h6⟩
def xl (told:Bool) (footer:List UInt8) (x:NB):List UInt8:=(if told=true then qQ (footer.length:Int)++footer else [])++xI x
theorem Ll {w:World} {q:Nat} {c0 c1 c2 c3 c4 c5 c6 c7 c8 c9 v3 v4 v5 v6 v7 v8:Value} {t:TypeId} (h:w.heap[q]?=some (.cells #[c0,c1,c2,c3,c4,c5,c6,c7,c8,c9] t (0,0))):(w.setCells q 3 [v3,v4,v5,v6,v7,v8]).heap[q]?=some (.cells #[c0,c1,c2,v3,v4,v5,v6,v7,v8,c9] t (0,0)) :=
 Zw (w:=w) [v3,v4,v5,v6,v7,v8] [c0,c1,c2] [c9] [c3,c4,c5,c6,c7,c8] rfl h
def Hv (B q ft:Nat) (told:Bool) (rest:List UInt8) (c9:Value) (w:World) (e:Ending) (w':World):Prop :=
 Below B w w'∧((e=gaveUp∧∀ (footer:List UInt8) (x:NB),(told=false→footer=[])→footer.length≤65535→Jz x→rest≠xl told footer x) ∨
   ∃ (footer:List UInt8) (x:NB),(told=false→footer=[])∧Jz x∧e=.returned (.tuple #[])∧rest=xl told footer x∧w'.heap[q]?=some (.cells #[.int .i64 (ft:Int),.bool told,strB footer,strB [if told=true then 83 else 70],.int .i64 0,.int .i64 0,.int .i64 0,strB x.1,strB x.2,c9] 77 (0,0)))
theorem EX (p q B ft:Nat) (told:Bool) (s rest:List UInt8) (c3 c4 c5 c6 c7 c8 c9:Value) (w:World) (hs:s.length≤maxLen) (hp:qv w p s rest) (hq:w.heap[q]?=some (.cells #[.int .i64 (ft:Int),.bool told,strB [],c3,c4,c5,c6,c7,c8,c9] 77 (0,0))) (hpq:p≠q) (hBp:B≤p) (hBq:B≤q) :
  Calls Tryz.prog 73 #[.pointer (some ⟨q,0,none⟩),.pointer (some ⟨p,0,none⟩)] w (Hv B q ft told rest c9 w):=by
 have Hs:=hid hs
 have Hp:=hid hp
 have Hq:=hid hq
 have hplt:=xD hp
 have hqlt:=(Array.getElem?_eq_some_iff.1 hq).1
 clear hs hp hq
 obtain ⟨⟨q0,q1,q2,q3,q4,q5,q6,q7,q8,q9⟩,cf⟩:=xA Hq.out
 have f2:=cf 2
 clear cf
 go_enter Tryz.func73,Tryz.ntmps73
 cases told
 case' false =>
  have HBT:Hid (Below B w w):=Below.refl _ _
  have HXT:Hid (∀ (footer':List UInt8) (x:NB),(false=false→footer'=[])→footer'.length≤65535→Jz x→rest=xl false footer' x→rest=xI x):=by
   intro f' x hf _ hx h
   simpa [xl] using h
  have HYT:Hid (∀ x:NB,rest=xI x→rest=xl false [] x):=by
   intro x h
   simpa [xl] using h
  have HpT:=Hp
  have HqT:=Hq
  have hFN:false=false→([]:List UInt8)=[]:=fun _=>rfl
  have hTlt:=hplt
  have hTqlt:=hqlt
  clear q0 q2 q3 q4 q5 q6 q7 q8 q9 f2
  go_wp2_with fail
  clear q1
 case' true =>
  clear q0 q3 q4 q5 q6 q7 q8 q9
  go_wp2_with fail
  clear q1
  refine (Vk p s rest w Hs.out Hp.out).mono ?_
  rintro e w1 ⟨hg1,⟨hr,rfl⟩|⟨a,b,r,hr,rfl,hp1⟩⟩
  ·have HN:Hid (∀ (footer:List UInt8) (x:NB),(true=false→footer=[])→footer.length≤65535→Jz x→rest≠xl true footer x):=by
    rintro f x _ _ _ rfl
    simp only [xl,if_true,List.length_append,jy] at hr
    omega
   have HB:=hid (jq hg1 hBp (by omega))
   clear hr hg1 q2 f2
   go_wp2
   exact ⟨rfl,HB.out,.inl ⟨rfl,HN.out⟩⟩
  have HB1:=hid (jq hg1 hBp (by omega))
  have Hq1:=hid (jk hg1 Hq.out (Ne.symm hpq))
  have Hp1:=hid hp1
  have hs1:=hg1.size
  have hab:a.toNat+256*b.toNat≤65535:=by have:=a.toNat_lt;have:=b.toNat_lt;omega
  have HX1:Hid (∀ (footer:List UInt8) (x:NB),footer.length≤65535→rest=xl true footer x→footer.length=a.toNat+256*b.toNat∧r=footer++xI x):=by
   intro f x hf h
   rw [hr] at h
   simp only [xl,if_true,List.append_assoc] at h
   have h':[a,b]++r=qQ (f.length:Int)++(f++xI x):=h
   obtain ⟨h1,h2⟩:=List.append_inj h' (by rw [jy];rfl)
   rw [← XZ a b] at h1
   exact ⟨(Jm (by omega) hf h1).symm,h2⟩
  have HY1:Hid (∀ (x:NB),a.toNat+256*b.toNat≤r.length→r.drop (a.toNat+256*b.toNat)=xI x→rest=xl true (r.take (a.toNat+256*b.toNat)) x):=by
   intro x hl h
   have hl2:(r.take (a.toNat+256*b.toNat)).length=a.toNat+256*b.toNat:=by rw [List.length_take];omega
   simp only [xl,if_true]
   rw [hl2,XZ,← h,List.append_assoc,List.take_append_drop,hr]
   rfl
  clear hr hg1 hp1 q2 f2
  obtain ⟨⟨q0,q1,q2,q3,q4,q5,q6,q7,q8,q9⟩,cf⟩:=xA Hq1.out
  clear q0 q1 q2 q3 q4 q5 q6 q7 q8 q9 cf
  generalize a.toNat+256*b.toNat=n at *
  go_wp2_with fail
  refine (Jn p s r n w1 Hs.out (by omega) Hp1.out).mono ?_
  rintro e w2 ⟨hg2,⟨hlt,rfl⟩|⟨hle,rfl,hp2⟩⟩
  ·have HN:Hid (∀ (footer:List UInt8) (x:NB),(true=false→footer=[])→footer.length≤65535→Jz x→rest≠xl true footer x):=by
    intro f x _ hf _ h
    obtain ⟨h1,h2⟩:=HX1.out f x hf h
    rw [h2,List.length_append] at hlt
    omega
   have HB:=hid (HB1.out.trans (jq hg2 hBp (by omega)))
   clear hlt hg2
   go_wp2
   exact ⟨rfl,HB.out,.inl ⟨rfl,HN.out⟩⟩
  have HB2:=hid (HB1.out.trans (jq hg2 hBp (by omega)))
  have Hq2:=hid (jk hg2 Hq1.out (Ne.symm hpq))
  have Hp2:=hid hp2
  have hs2:=hg2.size
  clear hg2 hp2
  obtain ⟨⟨q0,q1,q2,q3,q4,q5,q6,q7,q8,q9⟩,cf⟩:=xA Hq2.out
  have f2:=cf 2
  clear q0 q1 q3 q4 q5 q6 q7 q8 q9 cf
  have HXT:Hid (∀ (footer':List UInt8) (x:NB),(true=false→footer'=[])→footer'.length≤65535→Jz x→rest=xl true footer' x→r.drop n=xI x):=by
   intro f' x _ hf hx h
   obtain ⟨h1,h2⟩:=HX1.out f' x hf h
   rw [h2,← h1,List.drop_left]
  have HYT:Hid (∀ x:NB,r.drop n=xI x→rest=xl true (r.take n) x):=fun x h=>HY1.out x hle h
  have hFN:true=false→r.take n=[]:=fun h=>by cases h
  clear HX1 HY1
  generalize r.take n=F at *
  generalize r.drop n=r1 at *
  have HqT:=hid (Lx (v:=strB F) Hq2.out)
  have HBT:=hid (HB2.out.trans (jq (qr w2 q 2 (strB F)) hBq (by omega)))
  have HpT:=hid (zH Hp2.out (qr w2 q 2 (strB F)) hpq)
  go_wp2_with fail
  clear q2 f2
  generalize w2.setCell _ _=w3 at *
  have hTlt:=xD HpT.out
  have hTqlt:=(Array.getElem?_eq_some_iff.1 HqT.out).1
 all_goals
  refine (Ue p 0 0 0 _ s _ _ Hs.out HpT.out).mono ?_
  rintro e w6 ⟨hg6,⟨rfl,hno⟩|⟨x,r6,hx,rfl,hp6,hr6⟩⟩
  ·have HB6:=hid (HBT.out.trans (jq hg6 hBp (by omega)))
   have Hno:=hid hno
   clear hg6 hno
   go_wp2
   exact ⟨rfl,HB6.out,.inl ⟨rfl,fun f x hf hl hx h=>Hno.out x [] hx (by rw [List.append_nil];exact HXT.out f x (by first|exact hf|exact (fun _=>hf rfl)) hl hx h)⟩⟩
  have HB6:=hid (HBT.out.trans (jq hg6 hBp (by omega)))
  have Hq6:=hid (jk hg6 HqT.out (Ne.symm hpq))
  have Hp6:=hid hp6
  have Hr6:=hid hr6
  have hs6:=hg6.size
  clear hg6 hp6 hr6
  obtain ⟨⟨q0,q1,q2,q3,q4,q5,q6,q7,q8,q9⟩,cf⟩:=xA Hq6.out
  have f3:=cf 3
  have f4:=cf 4
  have f5:=cf 5
  have f6:=cf 6
  have f7:=cf 7
  have f8:=cf 8
  clear q0 q1 q2 q9 cf
  have Hq7:=hid (fun v3:Value=>Ll (v3:=v3) (v4:=.int .i64 0) (v5:=.int .i64 0) (v6:=.int .i64 0) (v7:=strB x.1) (v8:=strB x.2) Hq6.out)
  have Hg7:=hid (fun v3:Value=>xS q [v3,.int .i64 0,.int .i64 0,.int .i64 0,strB x.1,strB x.2] w6 3)
  have HB7:=hid (fun v3:Value=>HB6.out.trans (jq (Hg7.out v3) hBq (by omega)))
  have Hp7:=hid (fun v3:Value=>zH Hp6.out (Hg7.out v3) hpq)
  clear Hg7
  go_wp2_with fail
  clear q3 q4 q5 q6 q7 q8 f3 f4 f5 f6 f7 f8
  refine (NX p s r6 (w6.setCells q 3 [strB _,.int .i64 0,.int .i64 0,.int .i64 0,strB x.1,strB x.2]) Hs.out (Hp7.out _)).mono ?_
  rintro e w8 ⟨hb8,⟨hne,rfl⟩|⟨hnil,rfl⟩⟩
  ·have HB8:=hid ((HB7.out _).trans (hb8.mono (by rw [Xi];omega)))
   have HN:=hid hne
   clear hb8 hne
   go_wp2
   refine ⟨rfl,HB8.out,.inl ⟨rfl,fun f y hf hl hy h=>?_⟩⟩
   have h1:=HXT.out f y (by first|exact hf|exact (fun _=>hf rfl)) hl hy h
   rw [Hr6.out] at h1
   have h2:xI x++r6=xI y++[]:=by rw [List.append_nil];exact h1
   exact HN.out (DL hx hy h2).2
  ·have HB8:=hid ((HB7.out _).trans (hb8.mono (by rw [Xi];omega)))
   have Hq8:=hid ((hb8.block q (by rw [Xi];omega)).trans (Hq7.out _))
   have HE:=hid (HYT.out x (by rw [Hr6.out,hnil,List.append_nil]))
   clear hb8 hnil
   go_wp2
   go_end0
   first
   | exact ⟨HB8.out,.inr ⟨_,x,hFN,hx,rfl,HE.out,Hq8.out⟩⟩
   | exact ⟨HB8.out,.inr ⟨[],x,fun _=>rfl,hx,rfl,HE.out,Hq8.out⟩⟩
end
section
def qg (f:FormF):List UInt8:=QE f.told f.foot++f.parts
abbrev formV (f:FormF):Value:=.agg #[.int .i64 (f.foot:Int),.bool f.told,strB f.footer,strB [if f.told=true then 83 else 70],.int .i64 0,.int .i64 0,.int .i64 0,strB f.nonce,strB f.body,strB (qg f)]
def LX (file:List UInt8) (w:World) (e:Ending) (w':World):Prop :=
 Below w.heap.size w w'∧((e=gaveUp∧zd file=none)∨∃ f,zd file=some f∧e=.returned (formV f))
structure FileFacts (file:List UInt8) (f:FormF):Prop where
 len:file.length=4+(f.parts.length+((qW f).length+4))
 short:file.length≤65000
 last:file.drop (file.length - 4)=qQ ((qW f).length:Int)++[67,70]
 first:file.take 4=QE f.told f.foot
 mid:(file.drop (4+f.parts.length)).take (qW f).length=xl f.told f.footer (f.nonce,f.body)
theorem zO {f:FormF} {file:List UInt8} (hok:FormOk f) (e:zi f=file):FileFacts file f:=by
 have hlen:file.length=4+(f.parts.length+((qW f).length+4)):=by
  rw [← e]
  simp only [zi,List.length_append,List.length_cons,List.length_nil,jy]
 refine ⟨hlen,by rw [← e];exact hok.short,?_,?_,?_⟩
 ·rw [hlen,show 4+(f.parts.length+((qW f).length+4)) - 4=4+(f.parts.length+(qW f).length) by omega,← e]
  unfold zi
  rw [← List.drop_drop,List.drop_left' (by simp),← List.append_assoc,List.drop_left' (by simp)]
 ·rw [← e]
  unfold zi QE
  rw [List.take_left' (by simp)]
 ·rw [← e]
  unfold zi
  rw [← List.drop_drop,List.drop_left' (by simp),List.drop_left' rfl,List.take_left' rfl]
  rfl
theorem CW {file:List UInt8} {N ft:Nat} {told:Bool} {footer:List UInt8} {x:NB} (hl:file.length≤65000) (hN:N+8≤file.length) (hft:1≤ft∧ft≤9) (hno:told=false→footer=[]) (hx:Jz x)
  (h1:file.take 4=QE told ft) (h2:(file.drop (file.length - 4 - N)).take N=xl told footer x) (h3:file.drop (file.length - 4)=qQ (N:Int)++[67,70]) :
  zd file=some ⟨told,ft,(file.drop 4).take (file.length - 4 - N - 4),footer,x.1,x.2⟩:=by
 have e4:file.drop (file.length - 4 - N)=(file.drop (file.length - 4 - N)).take N++file.drop (file.length - 4):=by
  conv=>lhs;rw [← List.take_append_drop N (file.drop (file.length - 4 - N))]
  rw [List.drop_drop]
  congr 2
  omega
 have e5:file.drop 4=(file.drop 4).take (file.length - 4 - N - 4)++file.drop (file.length - 4 - N):=by
  conv=>lhs;rw [← List.take_append_drop (file.length - 4 - N - 4) (file.drop 4)]
  rw [List.drop_drop]
  congr 2
  omega
 have hfp:(xl told footer x).length=N:=by rw [← h2,List.length_take,List.length_drop];omega
 have hfile:zi ⟨told,ft,(file.drop 4).take (file.length - 4 - N - 4),footer,x.1,x.2⟩=file:=by
  have hf:qW ⟨told,ft,(file.drop 4).take (file.length - 4 - N - 4),footer,x.1,x.2⟩=xl told footer x:=rfl
  unfold zi
  rw [hf,hfp]
  simp only
  rw [← h3,← h2,← e4,← e5]
  have:[67,70]++[if told=true then 79 else 69]++[byB (ft:Int)]=file.take 4:=h1.symm
  rw [this,List.take_append_drop]
 conv=>lhs;rw [← hfile]
 exact Gw ⟨hx.1,hx.2.1,hft,by rw [hfile];exact hl,hno⟩
theorem IL (s:List UInt8) (b:Nat):(⟨s.toArray⟩:ByteArray).extract 0 b=⟨(s.take b).toArray⟩:=by
 rw [Ko];simp
theorem Ln (s:List UInt8) (a:Nat):(⟨s.toArray⟩:ByteArray).extract a s.length=⟨(s.drop a).toArray⟩:=by
 rw [Ko]
 congr 2
 rw [List.take_of_length_le (by rw [List.length_drop];omega)]
theorem EU (file:List UInt8) (w:World) (hs:file.length≤maxLen):Calls Tryz.prog 42 #[strB file] w (LX file w):=by
 have hz:=jM file
 have Hs:=hid hs
 unfold maxLen at hs
 go_enter Tryz.func42,Tryz.ntmps42
 by_cases h8:¬ 8≤file.length
 ·have HN:Hid (zd file=none):=Ql (fun f hok e=>by have:=(zO hok e).len;omega)
  have i1:¬ (8:Int)≤(file.length:Int):=by omega
  go_wp2_with fail
  refine (qS _).mono ?_
  rintro e w1 ⟨rfl,rfl⟩
  go_wp2
  exact ⟨rfl,(Below.refl _ _).alloc (Nat.le_refl _) _,.inl ⟨rfl,HN.out⟩⟩
 by_cases h65:¬ file.length≤65000
 ·have HN:Hid (zd file=none):=Ql (fun f hok e=>by have:=(zO hok e).short;omega)
  have i1:(8:Int)≤(file.length:Int):=by omega
  have i2:¬ (file.length:Int)≤65000:=by omega
  go_wp2_with fail
  refine (qS _).mono ?_
  rintro e w1 ⟨rfl,rfl⟩
  go_wp2
  exact ⟨rfl,(Below.refl _ _).alloc (Nat.le_refl _) _,.inl ⟨rfl,HN.out⟩⟩
 have i1:(8:Int)≤(file.length:Int):=by omega
 have i2:(file.length:Int)≤65000:=by omega
 have hw0:IntKind.i64.wrap ((file.length:Int) - 4)=((file.length - 4:Nat):Int):=by rw [IntKind.wrap_i64];omega
 have hE:file.length - 4≤file.length:=by omega
 have hE4:4≤file.length - 4:=by omega
 have HLE:Hid (file.length - 4+4=file.length):=by show _=_;omega
 have hse:=Ln file (file.length - 4)
 clear h8 h65
 go_wp2_with fail
 refine (qe _).mono ?_
 rintro e w1 ⟨rfl,rfl⟩
 go_wp2_with fail
 obtain ⟨hb0,hl0,_,ho0⟩:=jJ w #[.int .i64 0,.bool false,Value.string { data:=#[] },Value.string { data:=#[] },.int .i64 0,.int .i64 0,.int .i64 0,Value.string { data:=#[] },Value.string { data:=#[] },Value.string { data:=#[] }] 77
 generalize w.alloc _=W0 at *
 have HB0:=hid hb0
 have Ho0:=hid ho0
 clear hb0 ho0
 refine (Zl (file.drop (file.length - 4)) W0).mono ?_
 rintro e w2 ⟨rfl,hrd,hb2⟩
 have Hrd:=hid hrd
 have HB2:=hid (HB0.out.trans (hb2.mono HB0.out.size))
 have Ho2:=hid ((hb2.block w.heap.size hl0).trans Ho0.out)
 have hl2:=hb2.size
 clear hrd hb2
 go_wp2_with fail
 refine (Am W0.heap.size _ _ w2 (by rw [List.length_drop];unfold maxLen;omega) Hrd.out).mono ?_
 rintro e w3 ⟨hg3,⟨rfl,hno⟩|⟨N,r,hN,rfl,hp3,hr⟩⟩
 ·have HN:Hid (zd file=none):=Ql (fun f hok e=>by
   have:=hok.lens
   exact hno (qW f).length [] (by omega) (by rw [List.append_nil];exact (zO hok e).last))
  have HB3:=hid (HB2.out.trans (jq hg3 (by omega) (by omega)))
  clear hno hg3
  go_wp2
  exact ⟨rfl,HB3.out,.inl ⟨rfl,HN.out⟩⟩
 have HB3:=hid (HB2.out.trans (jq hg3 (by omega) (by omega)))
 have Ho3:=hid (jk hg3 Ho2.out (by omega))
 have hl3:=hg3.size
 have HL:Hid (file.drop (file.length - 4)=qQ (N:Int)++[67,70]):=by
  have h1:=congrArg List.length hr
  simp only [List.length_append,List.length_drop,jy,List.length_cons,List.length_nil] at h1
  have h2:r=[]:=List.eq_nil_of_length_eq_zero (by omega)
  show _=_
  rw [hr,h2,List.append_nil]
 clear hg3 hp3 hr
 have HNL:Hid (∀ f,FormOk f→zi f=file→(qW f).length=N):=by
  intro f hok e
  have h1:=(zO hok e).last
  rw [HL.out] at h1
  have:=hok.lens
  exact (Jm hN (by omega) (List.append_inj h1 (by rw [jy,jy])).1).symm
 by_cases hst:¬ N+8≤file.length
 ·have HN:Hid (zd file=none):=Ql (fun f hok e=>by
   have h1:=HNL.out f hok e
   have h2:=(zO hok e).len
   omega)
  have hw1:IntKind.i64.wrap (((file.length - 4:Nat):Int) - (N:Int))=((file.length - 4:Nat):Int) - (N:Int):=by rw [IntKind.wrap_i64];omega
  have i3:decide ((4:Int)≤((file.length - 4:Nat):Int) - (N:Int))=false:=by simp;omega
  go_wp2_with fail
  refine (qS _).mono ?_
  rintro e w4 ⟨rfl,rfl⟩
  clear hse hw1 hw0
  go_wp2
  exact ⟨rfl,HB3.out,.inl ⟨rfl,HN.out⟩⟩
 have hst':=Decidable.not_not.1 hst
 have hw1:IntKind.i64.wrap (((file.length - 4:Nat):Int) - (N:Int))=((file.length - 4 - N:Nat):Int):=by rw [IntKind.wrap_i64];omega
 have i3:(4:Int)≤((file.length - 4 - N:Nat):Int):=by omega
 have hpr:=IL file (file.length - 4 - N)
 have hpr4:=IL file 4
 have i4:file.length - 4 - N≤file.length:=by omega
 have i5:4≤file.length:=by omega
 clear hst
 go_wp2_with fail
 refine (qe _).mono ?_
 rintro e w4 ⟨rfl,rfl⟩
 go_wp2_with fail
 have hmid:=Ko file (file.length - 4 - N) (file.length - 4)
 rw [show file.length - 4 - (file.length - 4 - N)=N by omega] at hmid
 have i6:file.length - 4 - N≤file.length - 4:=by omega
 have i7:((file.length - 4 - N:Nat):Int)≤((file.length - 4:Nat):Int):=by omega
 have i8:((file.length - 4:Nat):Int)≤(file.length:Int):=by omega
 have i9:(0:Int)≤((file.length - 4 - N:Nat):Int):=by omega
 obtain ⟨hb5,hl5,_,hq5⟩:=jJ w4 #[.int .i64 0,.bool false,strB [],strB [],.int .i64 0,.int .i64 0,.int .i64 0,strB [],strB [],strB (file.take (file.length - 4 - N))] 77
 show Calls _ _ _ (w4.alloc (.cells #[.int .i64 0,.bool false,strB [],strB [],.int .i64 0,.int .i64 0,.int .i64 0,strB [],strB [],strB (file.take (file.length - 4 - N))] 77)) _
 generalize w4.alloc _=W5 at *
 have HB5:=hid (HB3.out.trans (hb5.mono HB3.out.size))
 have Hq5:=hid hq5
 have Ho5:=hid ((hb5.block w.heap.size (by omega)).trans Ho3.out)
 clear hb5 hq5
 refine (Zl (file.take 4) W5).mono ?_
 rintro e w6 ⟨rfl,hrd,hb6⟩
 have Hrd6:=hid hrd
 have HB6:=hid (HB5.out.trans (hb6.mono HB5.out.size))
 have Hq6:=hid ((hb6.block w4.heap.size hl5).trans Hq5.out)
 have Ho6:=hid ((hb6.block w.heap.size (by omega)).trans Ho5.out)
 have hl6:=hb6.size
 clear hrd hb6
 go_wp2_with fail
 refine (ES W5.heap.size w4.heap.size w4.heap.size (file.take 4) (file.take 4) _ _ _ _ _ _ _ _ _ _ w6 (by rw [List.length_take];unfold maxLen;omega) Hrd6.out Hq6.out (by omega) (by omega) (Nat.le_refl _)).mono ?_
 rintro e w7 ⟨hb7,⟨rfl,hno⟩|⟨told,ft,r7,hf1,hf2,rfl,hr7,hq7⟩⟩
 ·have HN:Hid (zd file=none):=Ql (fun f hok e=>by
   have:=hok.foot
   exact hno f.told f.foot [] this.1 this.2 (by rw [List.append_nil];exact (zO hok e).first))
  have HB7:=hid (HB6.out.trans (hb7.mono HB3.out.size))
  clear hno hb7 hpr hpr4 hse hw0 hw1 hmid
  go_wp2
  exact ⟨rfl,HB7.out,.inl ⟨rfl,HN.out⟩⟩
 have HB7:=hid (HB6.out.trans (hb7.mono HB3.out.size))
 have Hq7:=hid hq7
 have Ho7:=hid ((hb7.block w.heap.size (by omega)).trans Ho6.out)
 have hl7:=hb7.size
 have HH:Hid (file.take 4=QE told ft):=by
  have h1:=congrArg List.length hr7
  rw [List.length_append,List.length_take,show (QE told ft).length=4 from rfl] at h1
  have h2:r7=[]:=List.eq_nil_of_length_eq_zero (by omega)
  show _=_
  rw [hr7,h2,List.append_nil]
 clear hb7 hq7 hr7
 go_wp2_with fail
 refine (Zl ((file.drop (file.length - 4 - N)).take N) w7).mono ?_
 rintro e w8 ⟨rfl,hrd,hb8⟩
 have Hrd8:=hid hrd
 have HB8:=hid (HB7.out.trans (hb8.mono HB7.out.size))
 have Hq8:=hid ((hb8.block w4.heap.size (by omega)).trans Hq7.out)
 have Ho8:=hid ((hb8.block w.heap.size (by omega)).trans Ho7.out)
 have hl8:=hb8.size
 clear hrd hb8
 go_wp2_with fail
 refine (EX w7.heap.size w4.heap.size w4.heap.size ft told _ _ _ _ _ _ _ _ _ w8 (by rw [List.length_take];unfold maxLen;omega) Hrd8.out Hq8.out (by omega) (by omega) (Nat.le_refl _)).mono ?_
 rintro e w9 ⟨hb9,⟨rfl,hno⟩|⟨footer,x,hfn,hx,rfl,hr9,hq9⟩⟩
 ·have HN:Hid (zd file=none):=Ql (fun f hok e=>by
   have hF:=zO hok e
   have h1:=HNL.out f hok e
   have h2:=hok.lens
   have h3:f.told=told:=by
    have h4:=hF.first
    rw [HH.out] at h4
    unfold QE at h4
    cases h5:f.told<;>cases h6:told<;>simp_all
   have h7:file.length - 4 - N=4+f.parts.length:=by have:=hF.len;omega
   refine hno f.footer (f.nonce,f.body) (fun h=>hok.none_ (by rw [h3];exact h)) (by omega) ⟨hok.nonce,hok.body,by simp only;omega⟩ ?_
   rw [h7,← h1,← h3]
   exact hF.mid)
  have HB9:=hid (HB8.out.trans (hb9.mono HB3.out.size))
  clear hno hb9 hpr hpr4 hse hw0 hw1 hmid
  go_wp2
  exact ⟨rfl,HB9.out,.inl ⟨rfl,HN.out⟩⟩
 have HF:=hid (CW (N:=N) (by omega) hst' ⟨hf1,hf2⟩ hfn hx HH.out hr9 HL.out)
 have HB9:=hid (HB8.out.trans (hb9.mono HB3.out.size))
 have Ho9:=hid ((hb9.block w.heap.size (by omega)).trans Ho8.out)
 have HA:Hid (file.take (file.length - 4 - N)=QE told ft++(file.drop 4).take (file.length - 4 - N - 4)):=by
  show _=_
  rw [← HH.out,← List.take_add]
  congr 1
  omega
 obtain ⟨⟨q0,q1,q2,q3,q4,q5,q6,q7,q8,q9⟩,_⟩:=xA hq9
 clear hq9 hb9 hr9 hpr hpr4 hse hw0 hw1 hmid
 obtain ⟨⟨o0,o1,o2,o3,o4,o5,o6,o7,o8,o9⟩,of⟩:=xA Ho9.out
 have of0:=of 0
 have of1:=of 1
 have of2:=of 2
 have of3:=of 3
 have of4:=of 4
 have of5:=of 5
 have of6:=of 6
 have of7:=of 7
 have of8:=of 8
 have of9:=of 9
 clear of
 have HSB:Hid ((if told=true then (83:UInt8) else 70)=if told=true then (83:UInt8) else 70):=rfl
 generalize hsb:(if told=true then (83:UInt8) else 70)=sb at q3
 have Hsb:=hid hsb
 clear hsb hfn HSB
 have HoE:=hid (JO [.int .i64 (ft:Int),.bool told,strB footer,strB [sb],.int .i64 0,.int .i64 0,.int .i64 0,strB x.1,strB x.2,strB (file.take (file.length - 4 - N))] (by rfl) Ho9.out)
 have HgE:=hid (xS w.heap.size [.int .i64 (ft:Int),.bool told,strB footer,strB [sb],.int .i64 0,.int .i64 0,.int .i64 0,strB x.1,strB x.2,strB (file.take (file.length - 4 - N))] w9 0)
 go_wp2
 show bodyPost _ _ _ _ _ (w9.setCells w.heap.size 0 [.int .i64 (ft:Int),.bool told,strB footer,strB [sb],.int .i64 0,.int .i64 0,.int .i64 0,strB x.1,strB x.2,strB (file.take (file.length - 4 - N))])
 clear q0 q1 q2 q3 q4 q5 q6 q7 q8 q9 o0 o1 o2 o3 o4 o5 o6 o7 o8 o9 of0 of1 of2 of3 of4 of5 of6 of7 of8 of9
 generalize w9.setCells _ _ _=WE at *
 have HBE:=hid (HB9.out.trans (jq HgE.out (Nat.le_refl _) HB9.out.size))
 obtain ⟨⟨q0,q1,q2,q3,q4,q5,q6,q7,q8,q9⟩,_⟩:=xA HoE.out
 refine bodyPost_ret (v:=.agg #[.int .i64 (ft:Int),.bool told,strB footer,strB [sb],.int .i64 0,.int .i64 0,.int .i64 0,strB x.1,strB x.2,strB (file.take (file.length - 4 - N))]) (by simp [results,Tryz.results42,go_sem,q0,q1,q2,q3,q4,q5,q6,q7,q8,q9]) rfl ⟨HBE.out,.inr ⟨_,HF.out,?_⟩⟩
 simp only [formV,qg]
 rw [HA.out,Hsb.out]
end
end Go.Proofs.YthhpbhpfagoapabGreat
