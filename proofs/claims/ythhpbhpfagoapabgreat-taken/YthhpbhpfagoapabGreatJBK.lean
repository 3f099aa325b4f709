import Derived.Test.YthhpbhpfagoapabGreatRTk
import Derived.Test.YthhpbhpfagoapabGreatXRCols
import Derived.Test.YthhpbhpfagoapabGreatJAV
import Derived.Test.YthhpbhpfagoapabGreatJBC
import Derived.Deep.AppendLies
import Derived.Deep.RegionHeld3
import Derived.Deep.RegionLaw
import Derived.Test.YthhpbhpfagoapabGreatJBE
import Derived.Test.YthhpbhpfagoapabGreatJBD
namespace Go.Proofs.YthhpbhpfagoapabGreat
set_option linter.unusedVariables false
set_option linter.unusedSimpArgs false
set_option maxRecDepth 100000
set_option maxHeartbeats 16000000
open Go.RowKit
section
structure FootOk (foot R:Nat) (p:PlanB) (t:List ColB) (pl:List Nat):Prop where
 rows:R≤60
 plan:qM p=true
 told:p.told=false
 foot:p.foot=(foot:Int)
 heads:jX t=true
 bare:∀ c ∈ t,c.cells=[]
 len:pl.length=jY R p.group.toNat*t.length
 small:∀ x ∈ pl,x≤65000
abbrev footV (R:Nat) (p:PlanB) (cv pv:Value):Value:=.agg #[.int .i64 (R:Int),.int .i64 p.group,.int .i64 p.page,.int .i64 p.foot,.bool p.told,cv,pv]
def Im (text:List UInt8) (foot:Nat) (w:World) (e:Ending) (w':World):Prop :=
 Below w.heap.size w w'∧((e=gaveUp∧∀ R p t pl,FootOk foot R p t pl→text≠qn R p t pl) ∨
  ∃ R p t pl cv pv,FootOk foot R p t pl∧text=qn R p t pl∧(∀ c ∈ t,SmallC c)∧e=.returned (footV R p cv pv)∧w'.ownsRow w.heap.size 31 4 cv t.length (Zp t)∧w'.ownsRow w.heap.size 3 1 pv pl.length (xJ pl))
theorem Ci (p:Nat) (s rest:List UInt8) (most x:Nat) (q:List UInt8) (w:World) (hs:s.length≤maxLen) (hm:most≤1000000) (hp:qy w p s rest) (hx:x≤most) (h:rest=uB x++q) :
  Calls Tryz.prog 139 #[.pointer (some ⟨p,0,none⟩),.int .i64 (most:Int)] w fun e w'=>e=.returned (.int .i64 (x:Int))∧qy w' p s q∧w.grownBy w' (some p):=by
 refine (zP p s rest most w hs hm hp).mono ?_
 rintro e w1 ⟨hg,⟨rfl,hno⟩|⟨n,r,hn,rfl,hrd,hr⟩⟩
 ·exact absurd h (hno x q hx)
 ·rw [hr] at h
  obtain ⟨h1,h2⟩:=xV _ _ _ _ h
  subst h1 h2
  exact ⟨rfl,hrd,hg⟩
theorem Pt (p:Nat) (s rest:List UInt8) (most:Nat) (w:World) (hs:s.length≤maxLen) (hm:most≤1000000) (hp:qy w p s rest) (h:∀ x q,x≤most→rest≠uB x++q) :
  Calls Tryz.prog 139 #[.pointer (some ⟨p,0,none⟩),.int .i64 (most:Int)] w fun e w'=>e=gaveUp∧w.grownBy w' (some p):=by
 refine (zP p s rest most w hs hm hp).mono ?_
 rintro e w1 ⟨hg,⟨rfl,hno⟩|⟨n,r,hn,rfl,hrd,hr⟩⟩
 ·exact ⟨rfl,hg⟩
 ·exact absurd hr (h n r hn)
theorem JX {w:World} {q:Nat} {c0 c1 c2 c3 c4 c5 c6:Value} {t:TypeId} (h:w.heap[q]?=some (.cells #[c0,c1,c2,c3,c4,c5,c6] t (0,0))) :
  (w.cell? ⟨q,0,none⟩=some c0∧w.cell? ⟨q,1,none⟩=some c1∧w.cell? ⟨q,2,none⟩=some c2∧w.cell? ⟨q,3,none⟩=some c3∧w.cell? ⟨q,4,none⟩=some c4∧w.cell? ⟨q,5,none⟩=some c5∧w.cell? ⟨q,6,none⟩=some c6)∧(∀ j,w.frozen? ⟨q,j,none⟩=false) :=
 ⟨⟨by rw [jb h];rfl,by rw [jb h];rfl,by rw [jb h];rfl,by rw [jb h];rfl,by rw [jb h];rfl,by rw [jb h];rfl,by rw [jb h];rfl⟩,fun j=>frozen_of_row w q j _ t h⟩
theorem Fs {w:World} {q:Nat} {c0 c1 c2 c3 c4 c5 c6 v:Value} {t:TypeId} (h:w.heap[q]?=some (.cells #[c0,c1,c2,c3,c4,c5,c6] t (0,0))):(w.setCell ⟨q,5,none⟩ v).heap[q]?=some (.cells #[c0,c1,c2,c3,c4,v,c6] t (0,0)):=by
 rw [heap_setCell_same w q 5 _ t v h];rfl
theorem Hy {w:World} {q:Nat} {c0 c1 c2 c3 c4 c5 c6 v:Value} {t:TypeId} (h:w.heap[q]?=some (.cells #[c0,c1,c2,c3,c4,c5,c6] t (0,0))):(w.setCell ⟨q,6,none⟩ v).heap[q]?=some (.cells #[c0,c1,c2,c3,c4,c5,v] t (0,0)):=by
 rw [heap_setCell_same w q 6 _ t v h];rfl
theorem FE {w:World} {q:Nat} {c0 c1 c2 c3 c4 c5 c6 v1 v2 v3 v4:Value} {t:TypeId} (h:w.heap[q]?=some (.cells #[c0,c1,c2,c3,c4,c5,c6] t (0,0))):(w.setCells q 1 [v1,v2,v3,v4]).heap[q]?=some (.cells #[c0,v1,v2,v3,v4,c5,c6] t (0,0)) :=
 ZF (w:=w) [v1,v2,v3,v4] [c0] [c5,c6] [c1,c2,c3,c4] rfl h
theorem zd {w:World} {p:Nat} {s r:List UInt8} (h:qy w p s r):w.heap[p]?=some (.cells #[strB s,.int .i64 ((s.length - r.length:Nat):Int)] 175 (0,0)):=by
 obtain ⟨at_,h1,h2,rfl⟩:=h
 rw [h1,List.length_drop,show s.length - (s.length - at_)=at_ by omega]
theorem Zy {w w':World} {p:Nat} {s r:List UInt8} (h:qy w p s r) (hb:w'.heap[p]?=some (.cells #[strB s,.int .i64 ((s.length - r.length:Nat):Int)] 175 (0,0))):qy w' p s r:=by
 have:=zd h
 obtain ⟨at_,h1,h2,h3⟩:=h
 rw [h1] at this
 exact ⟨at_,by rw [hb,this],h2,h3⟩
theorem Ds {a pl:List Nat} {r:List UInt8} (hl:a.length=pl.length) (h:a.flatMap uB++r=pl.flatMap uB):r=[]:=by
 induction a generalizing pl with
 | nil =>
  cases pl with
  | nil=>simpa using h
  | cons y l=>simp at hl
 | cons x a ih =>
  cases pl with
  | nil=>simp at hl
  | cons y l =>
   simp only [List.flatMap_cons,List.append_assoc] at h
   obtain ⟨_,h2⟩:=xV _ _ _ _ h
   exact ih (by simpa using hl) h2
theorem DB {a pl:List Nat} {r:List UInt8} (hl:a.length < pl.length) (h:a.flatMap uB++r=pl.flatMap uB):∃ y z,y ∈ pl∧r=uB y++z:=by
 induction a generalizing pl with
 | nil =>
  cases pl with
  | nil=>simp at hl
  | cons y l=>exact ⟨y,l.flatMap uB,by simp,by simpa using h⟩
 | cons x a ih =>
  cases pl with
  | nil=>simp at hl
  | cons y l =>
   simp only [List.flatMap_cons,List.append_assoc] at h
   obtain ⟨_,h2⟩:=xV _ _ _ _ h
   obtain ⟨u,z,hu,hz⟩:=ih (by simpa using hl) h2
   exact ⟨u,z,List.mem_cons_of_mem _ hu,hz⟩
theorem qu {w w':World} {base e size n q:Nat} {v:Value} {xs:List Value} {C:Array Value} {t:TypeId} (h:w.ownsRow base e size v n xs) (hg:w.grownBy w' (some q)) (hq:w.heap[q]?=some (.cells C t (0,0))) (ht:t≠e):w'.ownsRow base e size v n xs:=by
 refine ⟨h.1,?_⟩
 rcases h.2 with hn|⟨g,cap,cur,rfl,hb',hg',rest⟩
 ·exact .inl hn
 ·refine .inr ⟨g,cap,cur,rfl,hb',(hg.block g (Array.getElem?_eq_some_iff.1 hg').1 (fun e=>?_)).trans hg',rest⟩
  cases e
  rw [hg'] at hq
  cases hq
  exact ht rfl
theorem Qy (text:List UInt8) (foot:Nat) (w:World) (hs:text.length≤maxLen) :
  Calls Tryz.prog 126 #[strB text,.int .i64 (foot:Int)] w (Im text foot w):=by
 obtain ⟨i0,hi,hz0,hz1,hz2⟩:=info_parts Tryz.infoInt
 have Hs:=hid hs
 clear hs
 have HX0:Hid (∀ R p t pl,FootOk foot R p t pl→text=qn R p t pl→text=uB R++(uB p.group.toNat++(uB p.page.toNat++(uB p.foot.toNat++(uB t.length++(t.flatMap jZ++pl.flatMap uB)))))):=by
  intro R p t pl _ h
  rw [h]
  simp only [qn,List.append_assoc]
 go_enter Tryz.func126,Tryz.ntmps126
 go_wp2_with fail
 obtain ⟨hb0,hl0,_,ho0⟩:=jK w #[.int .i64 0,.int .i64 0,.int .i64 0,.int .i64 0,.bool false,.slice none 0 0,.slice none 0 0] 79
 generalize w.alloc _=W0 at *
 have HB0:=hid hb0
 have Ho0:=hid ho0
 clear hb0 ho0
 refine (Zl text W0).mono ?_
 rintro e w1 ⟨rfl,hrd1,hb1⟩
 have HB1:=hid (HB0.out.trans (hb1.mono HB0.out.size))
 have Ho1:=hid ((hb1.block w.heap.size hl0).trans Ho0.out)
 have hl1:=hb1.size
 generalize hp:W0.heap.size=p at *
 have Hp:=hid hp
 clear hb1 hp
 have hplt1:=xF hrd1
 go_wp2_with fail
 refine (zP p text text 60 w1 Hs.out (by omega) hrd1).mono ?_
 rintro e w2 ⟨hg2,⟨rfl,hno⟩|⟨R,r1,hR,rfl,hrd2,hr1⟩⟩
 ·have HN:Hid (∀ R p t pl,FootOk foot R p t pl→text≠qn R p t pl):=fun R p t pl hok h=>hno R _ hok.rows (HX0.out R p t pl hok h)
  have HB:=hid (HB1.out.trans (jq hg2 (by omega) (by omega)))
  clear hno hg2
  go_wp2
  exact ⟨rfl,HB.out,.inl ⟨rfl,HN.out⟩⟩
 have hR60:R≤60:=hR
 have HB2:=hid (HB1.out.trans (jq hg2 (by omega) (by omega)))
 have Ho2:=hid (jk hg2 Ho1.out (by omega))
 have hl2:=hg2.size
 have HX1:Hid (∀ R' p t pl,FootOk foot R' p t pl→text=qn R' p t pl→R'=R∧r1=uB p.group.toNat++(uB p.page.toNat++(uB p.foot.toNat++(uB t.length++(t.flatMap jZ++pl.flatMap uB))))):=by
  intro R' p t pl hok h
  have h1:=HX0.out R' p t pl hok h
  rw [hr1] at h1
  obtain ⟨h2,h3⟩:=xV _ _ _ _ h1
  exact ⟨h2.symm,h3⟩
 have Hr1:=hid hr1
 clear hg2 hrd1 hr1 hR HX0
 go_wp2_with fail
 obtain ⟨hb3,hl3,_,hq3⟩:=jK w2 #[.int .i64 (R:Int),.int .i64 0,.int .i64 0,.int .i64 0,.bool false,.slice none 0 0,.slice none 0 0] 79
 generalize w2.alloc _=w3 at *
 have HB3:=hid (HB2.out.trans (hb3.mono HB2.out.size))
 have Ho3:=hid ((hb3.block w.heap.size (by omega)).trans Ho2.out)
 have Hq3:=hid hq3
 have hrd3:=qJ hrd2 hb3 (xF hrd2)
 have hpq:p≠w2.heap.size:=by have:=xF hrd2;omega
 generalize hQ:w2.heap.size=q at *
 have hwq:w.heap.size < q:=by omega
 have hwp:w.heap.size < p:=by have:=Hp.out;omega
 clear hb3 hq3 hrd2 hQ
 refine (zP p text r1 60 w3 Hs.out (by omega) hrd3).mono ?_
 rintro e w4 ⟨hg4,⟨rfl,hno⟩|⟨G,r2,hG,rfl,hrd4,hr2⟩⟩
 ·have HN:Hid (∀ R p t pl,FootOk foot R p t pl→text≠qn R p t pl):=fun R p t pl hok h=>by
   have hpl:=hok.plan
   simp only [qM,Bool.and_eq_true,decide_eq_true_eq] at hpl
   exact hno p.group.toNat _ (by show _≤60;omega) (HX1.out R p t pl hok h).2
  have HB:=hid (HB3.out.trans (jq hg4 (by omega) (by omega)))
  clear hno hg4
  go_wp2
  exact ⟨rfl,HB.out,.inl ⟨rfl,HN.out⟩⟩
 have hG60:G≤60:=hG
 have HB4:=hid (HB3.out.trans (jq hg4 (by omega) (by omega)))
 have Ho4:=hid (jk hg4 Ho3.out (by omega))
 have Hq4:=hid (jk hg4 Hq3.out (by omega))
 have hl4:=hg4.size
 have HX2:Hid (∀ R' p t pl,FootOk foot R' p t pl→text=qn R' p t pl→R'=R∧p.group.toNat=G∧r2=uB p.page.toNat++(uB p.foot.toNat++(uB t.length++(t.flatMap jZ++pl.flatMap uB)))):=by
  intro R' p t pl hok h
  obtain ⟨h1,h2⟩:=HX1.out R' p t pl hok h
  rw [hr2] at h2
  obtain ⟨h3,h4⟩:=xV _ _ _ _ h2
  exact ⟨h1,h3.symm,h4⟩
 have Hr2:=hid hr2
 clear hg4 hrd3 hr2 hG HX1
 go_wp2_with fail
 refine (zP p text r2 60 w4 Hs.out (by omega) hrd4).mono ?_
 rintro e w5 ⟨hg5,⟨rfl,hno⟩|⟨P,r3,hP,rfl,hrd5,hr3⟩⟩
 ·have HN:Hid (∀ R p t pl,FootOk foot R p t pl→text≠qn R p t pl):=fun R p t pl hok h=>by
   have hpl:=hok.plan
   simp only [qM,Bool.and_eq_true,decide_eq_true_eq] at hpl
   exact hno p.page.toNat _ (by show _≤60;omega) (HX2.out R p t pl hok h).2.2
  have HB:=hid (HB4.out.trans (jq hg5 (by omega) (by omega)))
  clear hno hg5
  go_wp2
  exact ⟨rfl,HB.out,.inl ⟨rfl,HN.out⟩⟩
 have hP60:P≤60:=hP
 have HB5:=hid (HB4.out.trans (jq hg5 (by omega) (by omega)))
 have Ho5:=hid (jk hg5 Ho4.out (by omega))
 have Hq5:=hid (jk hg5 Hq4.out (by omega))
 have hl5:=hg5.size
 have HX3:Hid (∀ R' p t pl,FootOk foot R' p t pl→text=qn R' p t pl→R'=R∧p.group.toNat=G∧p.page.toNat=P∧r3=uB p.foot.toNat++(uB t.length++(t.flatMap jZ++pl.flatMap uB))):=by
  intro R' p t pl hok h
  obtain ⟨h1,h2,h3⟩:=HX2.out R' p t pl hok h
  rw [hr3] at h3
  obtain ⟨h4,h5⟩:=xV _ _ _ _ h3
  exact ⟨h1,h2,h4.symm,h5⟩
 have Hr3:=hid hr3
 clear hg5 hrd4 hr3 hP HX2
 go_wp2_with fail
 refine (zP p text r3 9 w5 Hs.out (by omega) hrd5).mono ?_
 rintro e w6 ⟨hg6,⟨rfl,hno⟩|⟨F,r4,hF,rfl,hrd6,hr4⟩⟩
 ·have HN:Hid (∀ R p t pl,FootOk foot R p t pl→text≠qn R p t pl):=fun R p t pl hok h=>by
   have hpl:=hok.plan
   simp only [qM,Bool.and_eq_true,decide_eq_true_eq] at hpl
   exact hno p.foot.toNat _ (by show _≤9;omega) (HX3.out R p t pl hok h).2.2.2
  have HB:=hid (HB5.out.trans (jq hg6 (by omega) (by omega)))
  clear hno hg6
  go_wp2
  exact ⟨rfl,HB.out,.inl ⟨rfl,HN.out⟩⟩
 have hF9:F≤9:=hF
 have HB6:=hid (HB5.out.trans (jq hg6 (by omega) (by omega)))
 have Ho6:=hid (jk hg6 Ho5.out (by omega))
 have Hq6:=hid (jk hg6 Hq5.out (by omega))
 have hl6:=hg6.size
 have HX4:Hid (∀ R' p t pl,FootOk foot R' p t pl→text=qn R' p t pl→R'=R∧p=⟨(G:Int),(P:Int),(F:Int),false⟩∧r4=uB t.length++(t.flatMap jZ++pl.flatMap uB)):=by
  intro R' p t pl hok h
  obtain ⟨h1,h2,h3,h4⟩:=HX3.out R' p t pl hok h
  rw [hr4] at h4
  obtain ⟨h5,h6⟩:=xV _ _ _ _ h4
  have hpl:=hok.plan
  simp only [qM,Bool.and_eq_true,decide_eq_true_eq] at hpl
  have ht:=hok.told
  refine ⟨h1,?_,h6⟩
  cases p
  simp only [PlanB.mk.injEq] at *
  exact ⟨by omega,by omega,by omega,ht⟩
 have Hr4:=hid hr4
 clear hg6 hrd5 hr4 hF HX3
 obtain ⟨⟨q0,q1,q2,q3,q4,q5,q6⟩,qf⟩:=JX Hq6.out
 have f1:=qf 1
 have f2:=qf 2
 have f3:=qf 3
 have f4:=qf 4
 clear qf
 have Hq7:=hid (FE (v1:=.int .i64 (G:Int)) (v2:=.int .i64 (P:Int)) (v3:=.int .i64 (F:Int)) (v4:=.bool false) Hq6.out)
 have Hg7:=hid (xP q [.int .i64 (G:Int),.int .i64 (P:Int),.int .i64 (F:Int),.bool false] w6 1)
 have hz7:=Xp q [.int .i64 (G:Int),.int .i64 (P:Int),.int .i64 (F:Int),.bool false] w6 1
 go_wp2_with fail
 clear q0 q1 q2 q3 q4 q5 q6 f1 f2 f3 f4
 refine (NI ⟨(G:Int),(P:Int),(F:Int),false⟩ (w6.setCells q 1 [.int .i64 (G:Int),.int .i64 (P:Int),.int .i64 (F:Int),.bool false])).mono ?_
 generalize w6.setCells _ _ _=w7 at *
 rintro e w8 ⟨rfl,hb8⟩
 have Hrd7:=hid (zF hrd6 Hg7.out hpq)
 have HB7:=hid (HB6.out.trans (jq Hg7.out (by omega) (by omega)))
 have Ho7:=hid (jk Hg7.out Ho6.out (by omega))
 have HB8:=hid (HB7.out.trans (hb8.mono HB7.out.size))
 have Hrd8:=hid (qJ Hrd7.out hb8 (xF Hrd7.out))
 have Hq8:=hid (jd hb8 Hq7.out)
 have Ho8:=hid (jd hb8 Ho7.out)
 have hl8:=hb8.size
 clear hb8 hrd6
 obtain ⟨⟨q0,q1,q2,q3,q4,q5,q6⟩,qf⟩:=JX Hq8.out
 by_cases hok:¬ (qM ⟨(G:Int),(P:Int),(F:Int),false⟩=true∧F=foot)
 ·have HN:Hid (∀ R p t pl,FootOk foot R p t pl→text≠qn R p t pl):=fun R p t pl hk h=>by
   obtain ⟨h1,h2,h3⟩:=HX4.out R p t pl hk h
   refine hok ⟨by rw [← h2];exact hk.plan,?_⟩
   have h4:=hk.foot
   rw [h2] at h4
   simp only at h4
   omega
  cases hpo:qM ⟨(G:Int),(P:Int),(F:Int),false⟩ with
  | true =>
   have hne:((F:Int) == (foot:Int))=false:=by
    have:F≠foot:=fun h=>hok ⟨hpo,h⟩
    simp;omega
   clear hpo
   go_wp2_with fail
   refine (qU _).mono ?_
   rintro e w9 ⟨rfl,rfl⟩
   clear q0 q1 q2 q3 q4 q5 q6 qf
   go_wp2
   exact ⟨rfl,HB8.out,.inl ⟨rfl,HN.out⟩⟩
  | false =>
   clear hpo
   go_wp2_with fail
   refine (qU _).mono ?_
   rintro e w9 ⟨rfl,rfl⟩
   clear q0 q1 q2 q3 q4 q5 q6 qf
   go_wp2
   exact ⟨rfl,HB8.out,.inl ⟨rfl,HN.out⟩⟩
 obtain ⟨hpo,rfl⟩:=Decidable.not_not.1 hok
 have Hpo:=hid hpo
 have hpl:=hpo
 simp only [qM,Bool.and_eq_true,decide_eq_true_eq] at hpl
 have hG1:1≤G:=by omega
 rw [hpo]
 clear hok hpo hpl
 go_wp2_with fail
 refine (qh _).mono ?_
 rintro e w9 ⟨rfl,rfl⟩
 clear q0 q1 q2 q3 q4 q5 q6 qf
 go_wp2_with fail
 refine (Nq p text r4 w9 Hs.out Hrd8.out).mono ?_
 rintro e w10 ⟨hg10,⟨rfl,hno⟩|⟨t,cv,r5,hh,hsm,rfl,hown,hrd10,hr5⟩⟩
 ·have HN:Hid (∀ R p t pl,FootOk F R p t pl→text≠qn R p t pl):=fun R p t pl hk h=>by
   exact hno t _ hk.heads hk.bare (HX4.out R p t pl hk h).2.2
  have HB:=hid (HB8.out.trans (jq hg10 (by omega) (by omega)))
  clear hno hg10
  go_wp2
  exact ⟨rfl,HB.out,.inl ⟨rfl,HN.out⟩⟩
 have HB10:=hid (HB8.out.trans (jq hg10 (by omega) (by omega)))
 have Ho10:=hid (jk hg10 Ho8.out (by omega))
 have Hq10:=hid (jk hg10 Hq8.out (by omega))
 have hl10:=hg10.size
 have HX5:Hid (∀ R' p t' pl,FootOk F R' p t' pl→text=qn R' p t' pl→R'=R∧p=⟨(G:Int),(P:Int),(F:Int),false⟩∧t'=t∧r5=pl.flatMap uB):=by
  intro R' p t' pl hok h
  obtain ⟨h1,h2,h3⟩:=HX4.out R' p t' pl hok h
  rw [hr5] at h3
  obtain ⟨h4,h5⟩:=xV _ _ _ _ h3
  obtain ⟨h6,h7⟩:=Dv h4 hsm (Qw hok.heads hok.bare) h5
  exact ⟨h1,h2,h6.symm,h7⟩
 have hn6:t.length≤6:=by
  have:=hh
  simp only [jX,Bool.and_eq_true,decide_eq_true_eq] at this
  exact this.2.2
 have Hsm:=hid hsm
 have Hh:=hid hh
 have Hr5:=hid hr5
 have HOC:=hid (jS hown (show w.heap.size≤w9.heap.size by omega))
 obtain ⟨ca,cc,rfl⟩:=jL hown
 generalize hn:t.length=n at *
 have Hn:=hid hn
 clear hg10 hown hsm hh hr5 HX4 hn
 obtain ⟨⟨q0,q1,q2,q3,q4,q5,q6⟩,qf⟩:=JX Hq10.out
 have f5:=qf 5
 clear q0 q1 q2 q3 q4 q6 qf
 have Hq11:=hid (Fs (v:=.slice ca n cc) Hq10.out)
 have Hg11:=hid (qv w10 q 5 (.slice ca n cc))
 have hz11:(w10.setCell ⟨q,5,none⟩ (.slice ca n cc)).heap.size=w10.heap.size:=by simp
 go_wp2_with fail
 clear q5 f5
 have Hrd11:=hid (zF hrd10 Hg11.out hpq)
 have HB11:=hid (HB10.out.trans (jq Hg11.out (by omega) (by omega)))
 have Ho11:=hid (jk Hg11.out Ho10.out (by omega))
 have HOC11:=hid (qu HOC.out Hg11.out Hq10.out (by decide))
 generalize w10.setCell _ _=w11 at *
 clear hrd10 HOC
 obtain ⟨⟨q0,q1,q2,q3,q4,q5,q6⟩,qf⟩:=JX Hq11.out
 have hCN:=Ql (n:=R) hG1
 clear q2 q3 q4 q6 qf
 have hM:IntKind.i64.wrap (((jY R G:Nat):Int)*(n:Int))=((jY R G*n:Nat):Int):=by
  have h1:jY R G*n≤60*6:=Nat.mul_le_mul (by omega) hn6
  rw [← Int.natCast_mul]
  exact IntWalk.i64_in _ ⟨by omega,by omega⟩
 have HCT:=hid (fun w':World=>UQ R G w' (by omega) hG1 (by omega))
 have hMle:jY R G*n≤60*6:=Nat.mul_le_mul (by omega) hn6
 have HML:Hid (jY R G*n=jY R G*n):=rfl
 have hlt11:q < w11.heap.size:=by omega
 go_region_held3 (fun w'=>w'.cell? ⟨q,0,none⟩=some (.int .i64 (R:Int))∧w'.cell? ⟨q,1,none⟩=some (.int .i64 (G:Int))∧w'.cell? ⟨q,5,none⟩=some (.slice ca n cc)) (first|with_reducible exact ⟨k0,k1,k5⟩|exact ⟨q0,q1,q5⟩)
  (first|(go_at_call 95;refine (HCT.out _).mono ?_;rintro e w12 ⟨sv,rfl,hsp,hb12⟩;obtain ⟨sa,sc,rfl⟩:=jL hsp;have hb12':=jl hb12;have k0:=(hb12'.cell (p:=⟨q,0,none⟩) hlt11).trans q0;have k1:=(hb12'.cell (p:=⟨q,1,none⟩) hlt11).trans q1;have k5:=(hb12'.cell (p:=⟨q,5,none⟩) hlt11).trans q5))
 have HB12:=hid (HB11.out.trans (hb12'.mono HB11.out.size))
 have Ho12:=hid (jd hb12' Ho11.out)
 have Hq12:=hid (jd hb12' Hq11.out)
 have Hrd12:=hid (qJ Hrd11.out hb12' (xF Hrd11.out))
 have HOC12:=hid (jN HOC11.out hb12')
 have hl12:=hb12'.size
 clear hb12 hb12' k0 k1 k5 q0 q1 q5 hsp
 rw [show ((jY R G:Nat):Int)*(n:Int)=((jY R G*n:Nat):Int) from (Int.natCast_mul ..).symm]
 generalize hMM:jY R G*n=M at *
 have HMM:=hid hMM
 clear hMM HML
 go_wp2
 go_loopw [45] (fun i wr=>∃ (k:Nat) (pk:List Nat) (rk:List UInt8) (v:Value),k≤M∧i=.int .i64 (k:Int)∧pk.length=k∧(∀ x ∈ pk,x≤65000)∧wr.heap[q]?=some (.cells #[.int .i64 (R:Int),.int .i64 (G:Int),.int .i64 (P:Int),.int .i64 (F:Int),.bool false,.slice ca n cc,v] 79 (0,0))∧wr.ownsRow w.heap.size 3 1 v k (xJ pk)∧wr.ownsRow w.heap.size 31 4 (.slice ca n cc) n (Zp t)∧qy wr p text rk∧Below w.heap.size w wr∧wr.heap[w.heap.size]?=some (.cells #[.int .i64 0,.int .i64 0,.int .i64 0,.int .i64 0,.bool false,.slice none 0 0,.slice none 0 0] 79 (0,0))∧q < wr.heap.size∧r5=pk.flatMap uB++rk) (fun i _=>M - (intOf i).toNat)
 case atStart=>exact ⟨0,[],r5,.slice none 0 0,Nat.zero_le _,rfl,rfl,(fun x h=>by cases h),Hq12.out,World.ownsRow_nil _ _ _ _,HOC12.out,Hrd12.out,HB12.out,Ho12.out,by omega,rfl⟩
 case round =>
  obtain ⟨k,pk,rk,v,hkM,rfl,hpk,hsm,hq,hown,hoc,hrd,hB,ho,hqlt,hrk⟩:=hrel
  have Hpk:=hid hpk
  have Hsm2:=hid hsm
  have Hq:=hid hq
  have Hoc:=hid hoc
  have HB:=hid hB
  have Ho:=hid ho
  have Hrk:=hid hrk
  have Hrd:=hid hrd
  have Hown:=hid hown
  have hwz:=hB.size
  clear hpk hsm hq hoc hB ho hrk hrd
  obtain ⟨va,vc,rfl⟩:=jL hown
  clear hown
  by_cases hlt:k < M
  ·have hiM:(k:Int) < (M:Int):=by omega
   by_cases hx:¬ ∃ (x:Nat) (z:List UInt8),x≤65000∧rk=uB x++z
   ·have HN:Hid (∀ R p t pl,FootOk F R p t pl→text≠qn R p t pl):=fun R' p' t' pl hk h=>by
     obtain ⟨h1,h2,h3,h4⟩:=HX5.out R' p' t' pl hk h
     have hlen:=hk.len
     rw [h1,h2,h3,Hn.out] at hlen
     simp only [Int.toNat_natCast] at hlen
     rw [HMM.out] at hlen
     rw [Hrk.out] at h4
     obtain ⟨y,z,hy,hz⟩:=DB (by rw [Hpk.out,hlen];exact hlt) h4
     exact hx ⟨y,z,hk.small y hy,hz⟩
    have HNX:Hid (∀ x z,x≤65000→rk≠uB x++z):=fun x z h1 h2=>hx ⟨x,z,h1,h2⟩
    clear hx
    go_wp2_with fail
    have HC6:Hid (wr.cell? ⟨q,6,none⟩=some (.slice va k vc)):=(JX Hq.out).1.2.2.2.2.2.2
    refine wp_region_held_drew (S:=fun w'=>w'.cell? ⟨q,6,none⟩=some (.slice va k vc)) (by kernel_rfl) ?_ (fun hHeld=>?_)
    ·exact HC6.out
    refine tk 0 (.pointer (some ⟨q,6,none⟩)) ?_
    refine tk 1 (.slice va k vc) ?_
    refine tk 2 (.pointer (some ⟨p,0,none⟩)) ?_
    simp only [jA,jB,jC,Act.put,jD,jE,jF]
    refine rd 3 (fun K hK=>?_)
    simp only [jA,jB,jC]
    go_simp
    go_at_call 139
    refine (Pt p text rk 65000 _ Hs.out (by omega) (show qy wr.drew p text rk from Hrd.out) HNX.out).mono ?_
    rintro e w13 ⟨rfl,hg13⟩
    exact ⟨rfl,HB.out.trans (jq (jP hg13) (by omega) (by omega)),.inl ⟨rfl,HN.out⟩⟩
   ·obtain ⟨x,z,hx1,hx2⟩:=Classical.not_not.1 hx
    have Hx2:=hid hx2
    clear hx hx2
    go_wp2_with fail
    have hqd:wr.drew.heap[q]?=some (.cells #[.int .i64 (R:Int),.int .i64 (G:Int),.int .i64 (P:Int),.int .i64 (F:Int),.bool false,.slice ca n cc,.slice va k vc] 79 (0,0)):=Hq.out
    have c6:=(JX hqd).1.2.2.2.2.2.2
    go_region_law (first
     | (refine step_append_lies _ (by rfl) _ _ _ (by rfl) w.heap.size 3 i0 _ 1 8 Tryz.underlying22 hi hz0 hz1 hz2 rfl (by omega) _ k (xJ pk) (by rfl) (hownB.alloc _) ⟨w14.heap.size,0,none⟩ 1 1 [.int .i64 (x:Int)] (by rfl) (by rfl) (World.news_of_block (cs:=#[.int .i64 (x:Int)]) (t:=3) (fr:=(0,0)) (heap_alloc_new w14 _)) (by simp [Value.oneCell']) (by omega) (by unfold maxLen;omega) (by omega) (by simp;omega) _ rfl ?_;intro gg gc w15 hown15 hgr15 hat15 hlt15;have hq15:=jz hgr15 (hownB.alloc _) (jo _ hq14) (by decide);have c6c:=(JX hq15).1.2.2.2.2.2.2;have f6c:=(JX hq15).2 6)
     | (go_simp;go_at_call 139;refine (Ci p text rk 65000 x z _ Hs.out (by omega) (show qy wr.drew p text rk from Hrd.out) hx1 Hx2.out).mono ?_;rintro e w14 ⟨rfl,hrd14,hg14⟩;have hg14':=jP hg14;have hq14:=jk hg14' Hq.out (Ne.symm hpq);have c6a:=(JX hq14).1.2.2.2.2.2.2;have c6b:=(JX (jo (.cells #[.int .i64 (x:Int)] 3) hq14)).1.2.2.2.2.2.2;have hownB:=qu Hown.out hg14' (zd Hrd.out) (by decide);have hl14:=hg14'.size))
    all_goals
     have hoc14:=qu Hoc.out hg14' (zd Hrd.out) (by decide)
     have hocA:=hoc14.alloc (.cells #[.int .i64 (x:Int)] 3)
     have hoc15:=hocA.kept hgr15 (zo hocA (hownB.alloc _) (by decide))
     have HOCE:=hid (qu hoc15 (qv w15 q 6 (.slice (some ⟨gg,0,none⟩) (k+1) gc)) hq15 (by decide))
     have HOWE:=hid (qu hown15 (qv w15 q 6 (.slice (some ⟨gg,0,none⟩) (k+1) gc)) hq15 (by decide))
     have ho14:=jk hg14' Ho.out (by omega)
     have ho15:=jz hgr15 (hownB.alloc _) (jo _ ho14) (by decide)
     have HOE:=hid (jk (qv w15 q 6 (.slice (some ⟨gg,0,none⟩) (k+1) gc)) ho15 (by omega))
     have hr15:=jz hgr15 (hownB.alloc _) (jo _ (zd hrd14)) (by decide)
     have HRE:=hid (zF (Zy hrd14 hr15) (qv w15 q 6 (.slice (some ⟨gg,0,none⟩) (k+1) gc)) hpq)
     have hB14:=HB.out.trans (jq hg14' (by omega) (by omega))
     have hB15:=(hB14.alloc hB14.size (.cells #[.int .i64 (x:Int)] 3)).grown hgr15 (by have:=hB14.size;simp;omega) (fun k hk=>(hownB.lt k hk).1)
     have HBE:=hid (hB15.trans (jq (qv w15 q 6 (.slice (some ⟨gg,0,none⟩) (k+1) gc)) (by omega) hB15.size))
     have HQE:=hid (Hy (v:=.slice (some ⟨gg,0,none⟩) (k+1) gc) hq15)
     have hlt15:=(Array.getElem?_eq_some_iff.1 HQE.out).1
     clear hoc14 hocA hoc15 ho14 ho15 hr15 hB14 hB15 hq15 hq14 c6 c6a c6b c6c f6c hown15 hgr15 hownB hrd14 hg14 hg14' hqd hat15
     go_wp2
     go_roundw
     case rel=>exact ⟨k+1,pk++[x],z,.slice (some ⟨gg,0,none⟩) (k+1) gc,by omega,by go_num,by simp [Hpk.out],fun y hy=>(List.mem_append.1 hy).elim (Hsm2.out y) (fun h=>by simp only [List.mem_cons,List.not_mem_nil,or_false] at h;subst h;exact hx1),HQE.out,by rw [show xJ (pk++[x])=xJ pk++[.int .i64 (x:Int)] by simp [xJ]];exact HOWE.out,HOCE.out,HRE.out,HBE.out,HOE.out,hlt15,by rw [Hrk.out,Hx2.out];simp⟩
     case measure=>simp [intOf];omega
  ·have hiM:¬ (k:Int) < (M:Int):=by omega
   have hkM2:k=M:=by omega
   subst hkM2
   go_wp2_with fail
   refine (Yb p text rk wr Hs.out Hrd.out).mono ?_
   rintro e w13 ⟨hb13,⟨hne,rfl⟩|⟨hnil,rfl⟩⟩
   ·have HN:Hid (∀ R p t pl,FootOk F R p t pl→text≠qn R p t pl):=fun R' p' t' pl hk h=>by
     obtain ⟨h1,h2,h3,h4⟩:=HX5.out R' p' t' pl hk h
     have hlen:=hk.len
     rw [h1,h2,h3,Hn.out] at hlen
     simp only [Int.toNat_natCast] at hlen
     rw [HMM.out] at hlen
     rw [Hrk.out] at h4
     exact hne (Ds (by rw [Hpk.out,hlen]) h4)
    have HBE:=hid (HB.out.trans (hb13.mono hwz))
    clear hne hb13
    go_wp2
    exact ⟨rfl,HBE.out,.inl ⟨rfl,HN.out⟩⟩
   ·have HBE:=hid (HB.out.trans (hb13.mono hwz))
    have HOE:=hid (jd hb13 Ho.out)
    have HQE:=hid (jd hb13 Hq.out)
    have HOCE:=hid (jN Hoc.out hb13)
    have HOWE:=hid (jN Hown.out hb13)
    have HTX:Hid (text=qn R ⟨(G:Int),(P:Int),(F:Int),false⟩ t pk):=by
     show _=_
     simp only [qn,List.append_assoc,Int.toNat_natCast]
     rw [Hr1.out,Hr2.out,Hr3.out,Hr4.out,Hr5.out,Hrk.out,hnil,List.append_nil,Hn.out]
    clear hnil hb13
    obtain ⟨⟨q0,q1,q2,q3,q4,q5,q6⟩,_⟩:=JX HQE.out
    obtain ⟨⟨o0,o1,o2,o3,o4,o5,o6⟩,of⟩:=JX HOE.out
    have of0:=of 0
    have of1:=of 1
    have of2:=of 2
    have of3:=of 3
    have of4:=of 4
    have of5:=of 5
    have of6:=of 6
    clear of
    have HoF:=hid (JP [.int .i64 (R:Int),.int .i64 (G:Int),.int .i64 (P:Int),.int .i64 (F:Int),.bool false,.slice ca n cc,.slice va k vc] (by rfl) HOE.out)
    have HgF:=hid (xP w.heap.size [.int .i64 (R:Int),.int .i64 (G:Int),.int .i64 (P:Int),.int .i64 (F:Int),.bool false,.slice ca n cc,.slice va k vc] w13 0)
    go_wp2
    show bodyPost _ _ _ _ _ (w13.setCells w.heap.size 0 [.int .i64 (R:Int),.int .i64 (G:Int),.int .i64 (P:Int),.int .i64 (F:Int),.bool false,.slice ca n cc,.slice va k vc])
    clear q0 q1 q2 q3 q4 q5 q6 o0 o1 o2 o3 o4 o5 o6 of0 of1 of2 of3 of4 of5 of6
    have HOCF:=hid (qu HOCE.out HgF.out HOE.out (by decide))
    have HOWF:=hid (qu HOWE.out HgF.out HOE.out (by decide))
    generalize w13.setCells _ _ _=WF at *
    have HBF:=hid (HBE.out.trans (jq HgF.out (Nat.le_refl _) HBE.out.size))
    obtain ⟨⟨q0,q1,q2,q3,q4,q5,q6⟩,_⟩:=JX HoF.out
    refine bodyPost_ret (v:=footV R ⟨(G:Int),(P:Int),(F:Int),false⟩ (.slice ca n cc) (.slice va k vc)) (by simp [results,Tryz.results126,go_sem,q0,q1,q2,q3,q4,q5,q6]) rfl ⟨HBF.out,.inr ⟨R,⟨(G:Int),(P:Int),(F:Int),false⟩,t,pk,.slice ca n cc,.slice va k vc,⟨hR60,Hpo.out,rfl,rfl,Hh.out,fun c hc=>(Hsm.out c hc).cells,?_,Hsm2.out⟩,HTX.out,Hsm.out,rfl,?_,?_⟩⟩
    ·rw [Hpk.out,← HMM.out,Hn.out]
     rfl
    ·rw [Hn.out];exact HOCF.out
    ·rw [Hpk.out];exact HOWF.out
end
section
def Yc (key:Int) (g c i:Nat) (m:ModF):List Value:=[strB [80],.int .i64 (g:Int),.int .i64 (c:Int),.int .i64 (i:Int),strB (jO key m).1,strB (jO key m).2]
def xT (key:Int) (g c:Nat) (mp:List ModF):List Value:=(mp.mapIdx (Yc key g c)).flatten
abbrev chunkV (rows g c:Nat) (key:Int) (pv:Value) (m:ModF):Value:=.agg #[.int .i64 (rows:Int),pv,strB [77],.int .i64 (g:Int),.int .i64 (c:Int),.int .i64 0,strB (jO key m).1,strB (jO key m).2]
theorem IG (key:Int) (g c:Nat) (mp:List ModF) (m:ModF):xT key g c (mp++[m])=xT key g c mp++[strB [80],.int .i64 (g:Int),.int .i64 (c:Int),.int .i64 (mp.length:Int),strB (jO key m).1,strB (jO key m).2]:=by
 unfold xT
 rw [List.mapIdx_append]
 simp [Yc]
theorem Tryz.infoPiece:(Tryz.prog.info? 75).map (fun i=>(i.zero,i.size,i.bytes))=some (some (.agg #[.string ⟨#[]⟩,.int .i64 0,.int .i64 0,.int .i64 0,.string ⟨#[]⟩,.string ⟨#[]⟩]),6,72):=by kernel_rfl
theorem YP {t:List ColB} {L:List SpotB} {sp:SpotB} {L2:List SpotB} {mp M:List ModF} {rr q:List UInt8} (hmp:ModsOk t L mp) (hM:ModsOk t (L++(sp :: L2)) M) (h:jn t L mp++rr=jn t (L++(sp :: L2)) M++q):∃ m z,ze (jf t sp.c).key m∧rr=qq (jf t sp.c).key m++z:=by
 obtain ⟨M1,M2,rfl,h1,h2⟩:=NX hM
 rw [zV _ _ _ _ (qV h1),List.append_assoc] at h
 have hl:=qV hmp
 obtain ⟨M2',hM2',_⟩:∃ z,z=M2∧True:=⟨_,rfl,trivial⟩
 have key:∀ {L:List SpotB} {a b:List ModF} {x y:List UInt8},ModsOk t L a→ModsOk t L b→jn t L a++x=jn t L b++y→x=y:=by
  intro L a b x y ha
  induction ha using ModsOk.ind generalizing b with
  | nil=>intro hb e;cases hb using ModsOk.ind;simpa [jn] using e
  | cons hm _ ih =>
   intro hb e
   cases hb using ModsOk.ind with
   | cons hm' hb' =>
    simp only [jn,List.append_assoc] at e
    exact ih hb' (QO hm hm' e).2
 have hr:=key hmp h1 h
 cases h2 using ModsOk.ind with
 | cons hm _ =>
  rw [hr]
  simp only [jn,List.append_assoc]
  exact ⟨_,_,hm,rfl⟩
theorem Lr {R G P g c k:Nat} (hk:k < jY (jp R G g) P):∃ L2,jh R G P g c=jt P g c (g*G) (jp R G g) k++(⟨80,g,c,k,g*G+k*P,jp (jp R G g) P k⟩ :: L2):=by
 unfold jh
 obtain ⟨d,hd⟩:∃ d,jY (jp R G g) P=k+1+d:=⟨jY (jp R G g) P - (k+1),by omega⟩
 have:jt P g c (g*G) (jp R G g) (jY (jp R G g) P)=jt P g c (g*G) (jp R G g) (k+1)++((List.range d).map (k+1+·)).map (fun p=>(⟨80,g,c,p,g*G+p*P,jp (jp R G g) P p⟩:SpotB)):=by
  rw [hd]
  unfold jt
  rw [List.range_add,List.map_append]
 rw [this,Qs,List.append_assoc,List.append_assoc]
 exact ⟨_,rfl⟩
def MM (t:List ColB) (R G P g c:Nat) (p:Nat) (s rest:List UInt8) (w:World) (e:Ending) (w':World):Prop :=
 w.grownBy w' (some p)∧((e=gaveUp∧∀ (M:List ModF) (q:List UInt8),ModsOk t (jh R G P g c) M→rest≠jn t (jh R G P g c) M++q) ∨
  ∃ (mp:List ModF) (mm:ModF) (pv:Value) (r:List UInt8),ModsOk t (jh R G P g c) (mp++[mm])∧mp.length=jY (jp R G g) P∧e=.returned (chunkV (jp R G g) g c (jf t c).key pv mm)∧w'.ownsRow w.heap.size 75 6 pv mp.length (xT (jf t c).key g c mp)∧qy w' p s r∧rest=jn t (jh R G P g c) (mp++[mm])++r)
theorem SB {key:Int} {val:ModF→Value} {p:Nat} {s rest q:List UInt8} {w:World} {e:Ending} {w':World} {m:ModF} (h:Vi (ze key) (qq key) val p s rest w e w') (hm:ze key m) (hr:rest=qq key m++q):e=.returned (val m)∧qy w' p s q∧w.grownBy w' (some p):=by
 obtain ⟨hg,⟨_,hno⟩|⟨m',r,hm',rfl,hrd,hr'⟩⟩:=h
 ·exact absurd hr (hno m q hm)
 ·rw [hr'] at hr
  obtain ⟨h1,h2⟩:=QO hm' hm hr
  subst h1 h2
  exact ⟨rfl,hrd,hg⟩
theorem Bg {key:Int} {val:ModF→Value} {p:Nat} {s rest:List UInt8} {w:World} {e:Ending} {w':World} (h:Vi (ze key) (qq key) val p s rest w e w') (hn:∀ m q,ze key m→rest≠qq key m++q):e=gaveUp∧w.grownBy w' (some p):=by
 obtain ⟨hg,⟨he,_⟩|⟨m',r,hm',rfl,hrd,hr'⟩⟩:=h
 ·exact ⟨he,hg⟩
 ·exact absurd hr' (hn m' r hm')
theorem Xg {w:World} {q:Nat} {c0 c1 c2 c3 c4 c5 c6 c7:Value} {t:TypeId} (h:w.heap[q]?=some (.cells #[c0,c1,c2,c3,c4,c5,c6,c7] t (0,0))) :
  (w.cell? ⟨q,0,none⟩=some c0∧w.cell? ⟨q,1,none⟩=some c1∧w.cell? ⟨q,2,none⟩=some c2∧w.cell? ⟨q,3,none⟩=some c3∧w.cell? ⟨q,4,none⟩=some c4∧w.cell? ⟨q,5,none⟩=some c5∧w.cell? ⟨q,6,none⟩=some c6∧w.cell? ⟨q,7,none⟩=some c7)∧(∀ j,w.frozen? ⟨q,j,none⟩=false) :=
 ⟨⟨by rw [jb h];rfl,by rw [jb h];rfl,by rw [jb h];rfl,by rw [jb h];rfl,by rw [jb h];rfl,by rw [jb h];rfl,by rw [jb h];rfl,by rw [jb h];rfl⟩,fun j=>frozen_of_row w q j _ t h⟩
theorem FJ {w:World} {q:Nat} {c0 c1 c2 c3 c4 c5 c6 c7 v:Value} {t:TypeId} (h:w.heap[q]?=some (.cells #[c0,c1,c2,c3,c4,c5,c6,c7] t (0,0))):(w.setCell ⟨q,1,none⟩ v).heap[q]?=some (.cells #[c0,v,c2,c3,c4,c5,c6,c7] t (0,0)):=by
 rw [heap_setCell_same w q 1 _ t v h];rfl
theorem Ft {w:World} {q:Nat} {c0 c1 c2 c3 c4 c5 c6 c7 v2 v3 v4 v5 v6 v7:Value} {t:TypeId} (h:w.heap[q]?=some (.cells #[c0,c1,c2,c3,c4,c5,c6,c7] t (0,0))):(w.setCells q 2 [v2,v3,v4,v5,v6,v7]).heap[q]?=some (.cells #[c0,c1,v2,v3,v4,v5,v6,v7] t (0,0)) :=
 ZF (w:=w) [v2,v3,v4,v5,v6,v7] [c0,c1] [] [c2,c3,c4,c5,c6,c7] rfl h
theorem Yo (t:List ColB) (R G P g c:Nat) (Q p cb n cc:Nat) (s rest:List UInt8) (w:World) (hs:s.length≤maxLen) (hp:qy w p s rest) (hR:jp R G g≤60) (hP1:1≤P) (hP:P≤60) (hcn:c < n) (hn:n≤6)
  (hc15:w.cell? ⟨Q,15,none⟩=some (.slice (some ⟨cb,0,none⟩) n cc)) (hkey:w.cell? ⟨cb,c*4+2,none⟩=some (.int .i64 (jf t c).key)) (hc12:w.cell? ⟨Q,12,none⟩=some (.int .i64 (P:Int))) :
  Calls Tryz.prog 142 #[.pointer (some ⟨Q,0,none⟩),.pointer (some ⟨p,0,none⟩),.int .i64 (g:Int),.int .i64 (c:Int),.int .i64 ((jp R G g:Nat):Int)] w (MM t R G P g c p s rest w):=by
 obtain ⟨i0,hi,hz0,hz1,hz2⟩:=info_parts Tryz.infoPiece
 have Hs:=hid hs
 have Hp:=hid hp
 have hplt:=xF hp
 have HCS:Hid (∀ k,k < jY (jp R G g) P→∃ L2,jh R G P g c=jt P g c (g*G) (jp R G g) k++(⟨80,g,c,k,g*G+k*P,jp (jp R G g) P k⟩ :: L2)):=fun k hk=>Lr hk
 have HCE:Hid (jh R G P g c=jt P g c (g*G) (jp R G g) (jY (jp R G g) P)++[⟨77,g,c,0,g*G,jp R G g⟩]):=rfl
 have hci:(c:Int) < (n:Int):=by omega
 clear hs hp
 have HCN:Hid (jY (jp R G g) P≤jp R G g):=Ql hP1
 generalize hkk:(jf t c).key=key at *
 have Hkk:=hid hkk
 have HMP:Hid (∀ (M:List ModF) (rr q:List UInt8) (k:Nat) (mp:List ModF),k < jY (jp R G g) P→ModsOk t (jt P g c (g*G) (jp R G g) k) mp→ModsOk t (jh R G P g c) M→jn t (jt P g c (g*G) (jp R G g) k) mp++rr=jn t (jh R G P g c) M++q→∃ m z,ze key m∧rr=qq key m++z):=by
  intro M rr q k mp hk hmp hM h
  obtain ⟨L2,hL2⟩:=HCS.out k hk
  rw [hL2] at hM h
  obtain ⟨m,z,h1,h2⟩:=YP hmp hM h
  rw [← hkk]
  exact ⟨m,z,h1,h2⟩
 have HMQ:Hid (∀ (M:List ModF) (rr q:List UInt8) (mp:List ModF),ModsOk t (jt P g c (g*G) (jp R G g) (jY (jp R G g) P)) mp→ModsOk t (jh R G P g c) M→jn t (jt P g c (g*G) (jp R G g) (jY (jp R G g) P)) mp++rr=jn t (jh R G P g c) M++q→∃ m z,ze key m∧rr=qq key m++z):=by
  intro M rr q mp hmp hM h
  rw [HCE.out] at hM h
  obtain ⟨m,z,h1,h2⟩:=YP hmp hM h
  rw [← hkk]
  exact ⟨m,z,h1,h2⟩
 clear hkk HCS
 generalize hrr:jp R G g=rows at *
 have Hrr:=hid hrr
 clear hrr
 generalize hCN:jY rows P=CN at *
 have HCNe:=hid hCN
 have hCN60:CN≤60:=by have:=HCN.out;omega
 have HCT:=hid (fun w':World=>UQ rows P w' (by omega) hP1 (by omega))
 rw [hCN] at HCT
 clear hCN
 have a15:=je (.cells #[.int .i64 0,.slice none 0 0,Value.string { data:=#[] },.int .i64 0,.int .i64 0,.int .i64 0,Value.string { data:=#[] },Value.string { data:=#[] }] 157) hc15
 have ak:=je (.cells #[.int .i64 0,.slice none 0 0,Value.string { data:=#[] },.int .i64 0,.int .i64 0,.int .i64 0,Value.string { data:=#[] },Value.string { data:=#[] }] 157) hkey
 have a12:=je (.cells #[.int .i64 (rows:Int),.slice none 0 0,Value.string { data:=#[] },.int .i64 0,.int .i64 0,.int .i64 0,Value.string { data:=#[] },Value.string { data:=#[] }] 157) (je (.cells #[.int .i64 0,.slice none 0 0,Value.string { data:=#[] },.int .i64 0,.int .i64 0,.int .i64 0,Value.string { data:=#[] },Value.string { data:=#[] }] 157) hc12)
 obtain ⟨hb0,hl0,ho0,hq0⟩:=JY w #[.int .i64 0,.slice none 0 0,Value.string { data:=#[] },.int .i64 0,.int .i64 0,.int .i64 0,Value.string { data:=#[] },Value.string { data:=#[] }] 157 #[.int .i64 (rows:Int),.slice none 0 0,Value.string { data:=#[] },.int .i64 0,.int .i64 0,.int .i64 0,Value.string { data:=#[] },Value.string { data:=#[] }] 157
 go_enter Tryz.func142,Tryz.ntmps142
 go_wp2_with fail
 clear a15 ak a12 hc15 hkey hc12
 generalize (w.alloc _).alloc _=W0 at *
 have HB0:=hid hb0
 have Ho0:=hid ho0
 have Hq0:=hid hq0
 clear hb0 ho0 hq0
 refine (HCT.out _).mono ?_
 rintro e w1 ⟨sv,rfl,hsp,hb1⟩
 obtain ⟨sa,sc,rfl⟩:=jL hsp
 have HB1:=hid (HB0.out.trans (hb1.mono HB0.out.size))
 have Ho1:=hid (jd hb1 Ho0.out)
 have Hq1:=hid (jd hb1 Hq0.out)
 have hl1:=hb1.size
 clear hb1 hsp
 have Hp1:=hid (qJ Hp.out HB1.out hplt)
 go_wp2
 go_loopw [34] (fun i wr=>∃ (k:Nat) (mp:List ModF) (rk:List UInt8) (v:Value),k≤CN∧i=.int .i64 (k:Int)∧mp.length=k∧ModsOk t (jt P g c (g*G) rows k) mp∧wr.heap[w.heap.size+1]?=some (.cells #[.int .i64 (rows:Int),v,Value.string { data:=#[] },.int .i64 0,.int .i64 0,.int .i64 0,Value.string { data:=#[] },Value.string { data:=#[] }] 157 (0,0))∧wr.ownsRow w.heap.size 75 6 v k (xT key g c mp)∧qy wr p s rk∧w.grownBy wr (some p)∧wr.heap[w.heap.size]?=some (.cells #[.int .i64 0,.slice none 0 0,Value.string { data:=#[] },.int .i64 0,.int .i64 0,.int .i64 0,Value.string { data:=#[] },Value.string { data:=#[] }] 157 (0,0))∧rest=jn t (jt P g c (g*G) rows k) mp++rk) (fun i _=>CN - (intOf i).toNat)
 case atStart=>exact ⟨0,[],rest,.slice none 0 0,Nat.zero_le _,rfl,rfl,.nil,Hq1.out,World.ownsRow_nil _ _ _ _,Hp1.out,jG (jU w _) HB1.out,Ho1.out,rfl⟩
 case round =>
  obtain ⟨k,mp,rk,v,hkC,rfl,hmp,hok,hq,hown,hrd,hg,ho,hrk⟩:=hrel
  have Hmp:=hid hmp
  have Hok:=hid hok
  have Hq:=hid hq
  have HG:=hid hg
  have Ho:=hid ho
  have Hrk:=hid hrk
  have Hrd:=hid hrd
  have Hown:=hid hown
  have hwz:=hg.size
  have hqlt:=(Array.getElem?_eq_some_iff.1 hq).1
  clear hmp hok hq hg ho hrk hrd
  obtain ⟨va,vc,rfl⟩:=jL hown
  clear hown
  by_cases hlt:k < CN
  ·have hiM:(k:Int) < (CN:Int):=by omega
   by_cases hx:¬ ∃ (m:ModF) (z:List UInt8),ze key m∧rk=qq key m++z
   ·have HN:Hid (∀ (M:List ModF) (q:List UInt8),ModsOk t (jh R G P g c) M→rest≠jn t (jh R G P g c) M++q):=fun M q hM h=>by
     rw [Hrk.out] at h
     exact hx (HMP.out M rk q k mp hlt Hok.out hM h)
    have HNX:Hid (∀ m z,ze key m→rk≠qq key m++z):=fun m z h1 h2=>hx ⟨m,z,h1,h2⟩
    clear hx
    go_wp2_with fail
    have HC1:Hid (wr.cell? ⟨w.heap.size+1,1,none⟩=some (.slice va k vc)):=(Xg Hq.out).1.2.1
    refine wp_region_held_drew (S:=fun w'=>w'.cell? ⟨w.heap.size+1,1,none⟩=some (.slice va k vc)) (by kernel_rfl) ?_ (fun hHeld=>?_)
    ·exact HC1.out
    refine tk 0 (.pointer (some ⟨w.heap.size+1,1,none⟩)) ?_
    refine tk 1 (.slice va k vc) ?_
    refine tk 2 (.pointer (some ⟨p,0,none⟩)) ?_
    refine tk 3 (.int .i64 key) ?_
    refine tk 4 (.int .i64 (g:Int)) ?_
    refine tk 5 (.int .i64 (c:Int)) ?_
    refine tk 6 (.int .i64 (k:Int)) ?_
    refine tk 7 (moduleV [80] g c k) ?_
    simp only [jA,jB,jC,Act.put,jD,jE,jF]
    refine rd 8 (fun K hK=>?_)
    simp only [jA,jB,jC]
    go_simp
    go_at_call 173
    refine (Kg p g c k key [80] s rk _ Hs.out (show qy wr.drew p s rk from Hrd.out)).mono ?_
    intro e w13 h13
    obtain ⟨rfl,hg13⟩:=Bg h13 HNX.out
    exact ⟨rfl,jg HG.out (jP hg13),.inl ⟨rfl,HN.out⟩⟩
   ·obtain ⟨m,z,hx1,hx2⟩:=Classical.not_not.1 hx
    have Hx1:=hid hx1
    have Hx2:=hid hx2
    clear hx hx1 hx2
    go_wp2_with fail
    have hqd:wr.drew.heap[w.heap.size+1]?=some (.cells #[.int .i64 (rows:Int),.slice va k vc,Value.string { data:=#[] },.int .i64 0,.int .i64 0,.int .i64 0,Value.string { data:=#[] },Value.string { data:=#[] }] 157 (0,0)):=Hq.out
    have c6:=(Xg hqd).1.2.1
    go_region_law (first
     | (refine step_append_lies _ (by rfl) _ _ _ (by rfl) w.heap.size 75 i0 _ 6 72 Tryz.underlying155 hi hz0 hz1 hz2 rfl (by omega) _ k (xT key g c mp) (by rfl) (hownB.alloc _) ⟨w14.heap.size,0,none⟩ 1 1 [strB [80],.int .i64 (g:Int),.int .i64 (c:Int),.int .i64 (k:Int),strB (jO key m).1,strB (jO key m).2] (by rfl) (by rfl) (World.news_of_block (cs:=#[strB [80],.int .i64 (g:Int),.int .i64 (c:Int),.int .i64 (k:Int),strB (jO key m).1,strB (jO key m).2]) (t:=75) (fr:=(0,0)) (heap_alloc_new w14 _)) (by simp [Value.oneCell']) (by omega) (by unfold maxLen;omega) (by omega) (by simp;omega) _ rfl ?_;intro gg gc w15 hown15 hgr15 hat15 hlt15;have hq15:=jz hgr15 (hownB.alloc _) (jo _ hq14) (by decide);have c6c:=(Xg hq15).1.2.1;have f6c:=(Xg hq15).2 1)
     | (go_simp;go_at_call 173;refine (Kg p g c k key [80] s rk _ Hs.out (show qy wr.drew p s rk from Hrd.out)).mono ?_;intro e w14 h14;obtain ⟨rfl,hrd14,hg14⟩:=SB h14 Hx1.out Hx2.out;have hg14':=jP hg14;have hq14:=jk hg14' Hq.out (by omega);have c6a:=(Xg hq14).1.2.1;have c6b:=(Xg (jo (.cells #[strB [80],.int .i64 (g:Int),.int .i64 (c:Int),.int .i64 (k:Int),strB (jO key m).1,strB (jO key m).2] 75) hq14)).1.2.1;have hownB:=qu Hown.out hg14' (zd Hrd.out) (by decide);have hl14:=hg14'.size;clear h14))
    all_goals
     have HOWE:=hid (qu hown15 (qv w15 (w.heap.size+1) 1 (.slice (some ⟨gg,0,none⟩) (k+1) gc)) hq15 (by decide))
     have ho14:=jk hg14' Ho.out (by omega)
     have ho15:=jz hgr15 (hownB.alloc _) (jo _ ho14) (by decide)
     have HOE:=hid (jk (qv w15 (w.heap.size+1) 1 (.slice (some ⟨gg,0,none⟩) (k+1) gc)) ho15 (by omega))
     have hr15:=jz hgr15 (hownB.alloc _) (jo _ (zd hrd14)) (by decide)
     have HRE:=hid (zF (Zy hrd14 hr15) (qv w15 (w.heap.size+1) 1 (.slice (some ⟨gg,0,none⟩) (k+1) gc)) (by omega))
     have hG15:=JQ (Us (jg HG.out hg14') (.cells #[strB [80],.int .i64 (g:Int),.int .i64 (c:Int),.int .i64 (k:Int),strB (jO key m).1,strB (jO key m).2] 75)) hgr15 (fun k hk=>(hownB.lt k hk).1)
     have HGE:=hid (JQ hG15 (qv w15 (w.heap.size+1) 1 (.slice (some ⟨gg,0,none⟩) (k+1) gc)) (by rintro k hk;cases hk;omega))
     have HQE:=hid (FJ (v:=(.slice (some ⟨gg,0,none⟩) (k+1) gc)) hq15)
     clear ho14 ho15 hr15 hG15 hq15 hq14 c6 c6a c6b c6c f6c hown15 hgr15 hownB hrd14 hg14 hg14' hqd hat15
     go_wp2
     go_roundw
     case rel =>
      refine ⟨k+1,mp++[m],z,(.slice (some ⟨gg,0,none⟩) (k+1) gc),by omega,by go_num,by simp [Hmp.out],?_,HQE.out,by rw [IG,Hmp.out];exact HOWE.out,HRE.out,HGE.out,HOE.out,?_⟩
      ·rw [Qs]
       refine Hok.out.append (.cons ?_ .nil)
       show ze (jf t c).key m
       rw [Hkk.out]
       exact Hx1.out
      ·rw [Qs,zV _ _ _ _ (qV Hok.out),Hrk.out,Hx2.out]
       simp only [jn,Hkk.out,List.append_nil,List.append_assoc]
     case measure=>simp [intOf];omega
  ·have hiM:¬ (k:Int) < (CN:Int):=by omega
   have hkM2:k=CN:=by omega
   subst hkM2
   go_wp2_with fail
   refine (Kg p g c 0 key [77] s rk wr Hs.out Hrd.out).mono ?_
   rintro e w13 ⟨hg13,⟨rfl,hno⟩|⟨m,z,hm,rfl,hrd13,hr13⟩⟩
   ·have HN:Hid (∀ (M:List ModF) (q:List UInt8),ModsOk t (jh R G P g c) M→rest≠jn t (jh R G P g c) M++q):=fun M q hM h=>by
     rw [Hrk.out] at h
     obtain ⟨m,z,h1,h2⟩:=HMQ.out M rk q mp Hok.out hM h
     exact hno m z h1 h2
    have HGE:=hid (jg HG.out hg13)
    clear hno hg13
    go_wp2
    exact ⟨rfl,HGE.out,.inl ⟨rfl,HN.out⟩⟩
   have HG13:=hid (jg HG.out hg13)
   have Ho13:=hid (jk hg13 Ho.out (by omega))
   have Hq13:=hid (jk hg13 Hq.out (by omega))
   have Hown13:=hid (qu Hown.out hg13 (zd Hrd.out) (by decide))
   have Hrd13:=hid hrd13
   have HM13:Hid (ModsOk t (jh R G P g c) (mp++[m])∧rest=jn t (jh R G P g c) (mp++[m])++z):=by
    have hm2:ModsOk t [⟨77,g,c,0,g*G,rows⟩] [m]:=.cons (by show ze (jf t c).key m;rw [Hkk.out];exact hm) .nil
    rw [HCE.out]
    refine ⟨Hok.out.append hm2,?_⟩
    rw [zV _ _ _ _ (qV Hok.out),Hrk.out,hr13]
    simp only [jn,Hkk.out,List.append_nil,List.append_assoc]
   clear hg13 hrd13 hr13
   obtain ⟨⟨q0,q1,q2,q3,q4,q5,q6,q7⟩,qf⟩:=Xg Hq13.out
   have f2:=qf 2
   have f3:=qf 3
   have f4:=qf 4
   have f5:=qf 5
   have f6:=qf 6
   have f7:=qf 7
   clear qf
   have Hq14:=hid (Ft (v2:=strB [77]) (v3:=.int .i64 (g:Int)) (v4:=.int .i64 (c:Int)) (v5:=.int .i64 0) (v6:=strB (jO key m).1) (v7:=strB (jO key m).2) Hq13.out)
   have Hg14:=hid (xP (w.heap.size+1) [strB [77],.int .i64 (g:Int),.int .i64 (c:Int),.int .i64 0,strB (jO key m).1,strB (jO key m).2] w13 2)
   have Ho14:=hid (jk Hg14.out Ho13.out (by omega))
   have HoF:=hid (JP [.int .i64 (rows:Int),.slice va k vc,strB [77],.int .i64 (g:Int),.int .i64 (c:Int),.int .i64 0,strB (jO key m).1,strB (jO key m).2] (by rfl) Ho14.out)
   have HgF:=hid (xP w.heap.size [.int .i64 (rows:Int),.slice va k vc,strB [77],.int .i64 (g:Int),.int .i64 (c:Int),.int .i64 0,strB (jO key m).1,strB (jO key m).2] (w13.setCells (w.heap.size+1) 2 [strB [77],.int .i64 (g:Int),.int .i64 (c:Int),.int .i64 0,strB (jO key m).1,strB (jO key m).2]) 0)
   obtain ⟨⟨o0,o1,o2,o3,o4,o5,o6,o7⟩,of⟩:=Xg Ho13.out
   have of0:=of 0
   have of1:=of 1
   have of2:=of 2
   have of3:=of 3
   have of4:=of 4
   have of5:=of 5
   have of6:=of 6
   have of7:=of 7
   clear of
   have HOW14:=hid (qu Hown13.out Hg14.out Hq13.out (by decide))
   have HOWF:=hid (qu HOW14.out HgF.out Ho14.out (by decide))
   have Hrd14:=hid (zF Hrd13.out Hg14.out (by omega))
   have HrdF:=hid (zF Hrd14.out HgF.out (by omega))
   have HG14:=hid (JQ HG13.out Hg14.out (by rintro k hk;cases hk;omega))
   have HGF:=hid (JQ HG14.out HgF.out (by rintro k hk;cases hk;omega))
   go_wp2
   show bodyPost _ _ _ _ _ ((w13.setCells (w.heap.size+1) 2 [strB [77],.int .i64 (g:Int),.int .i64 (c:Int),.int .i64 0,strB (jO key m).1,strB (jO key m).2]).setCells w.heap.size 0 [.int .i64 (rows:Int),.slice va k vc,strB [77],.int .i64 (g:Int),.int .i64 (c:Int),.int .i64 0,strB (jO key m).1,strB (jO key m).2])
   clear q0 q1 q2 q3 q4 q5 q6 q7 f2 f3 f4 f5 f6 f7 o0 o1 o2 o3 o4 o5 o6 o7 of0 of1 of2 of3 of4 of5 of6 of7
   generalize (w13.setCells _ _ _).setCells _ _ _=WF at *
   obtain ⟨⟨q0,q1,q2,q3,q4,q5,q6,q7⟩,_⟩:=Xg HoF.out
   refine bodyPost_ret (v:=chunkV rows g c key (.slice va k vc) m) (by simp [results,Tryz.results142,go_sem,q0,q1,q2,q3,q4,q5,q6,q7]) rfl ⟨HGF.out,.inr ⟨mp,m,.slice va k vc,z,HM13.out.1,?_,?_,?_,HrdF.out,HM13.out.2⟩⟩
   ·rw [Hrr.out,HCNe.out];exact Hmp.out
   ·rw [Hrr.out,Hkk.out]
   ·rw [Hkk.out,Hmp.out];exact HOWF.out
end
section
structure Touch2 (w w':World) (p q:Nat):Prop where
 os:w'.os=w.os
 tape:w'.tape=w.tape
 output:w'.output=w.output
 size:w.heap.size≤w'.heap.size
 block:∀ k,k < w.heap.size→k≠p→k≠q→w'.heap[k]?=w.heap[k]?
theorem Touch2.refl (w:World) (p q:Nat):Touch2 w w p q:=⟨rfl,rfl,rfl,Nat.le_refl _,fun _ _ _ _=>rfl⟩
theorem Touch2.grown {w a b:World} {p q:Nat} {r:Option Nat} (h:Touch2 w a p q) (hg:a.grownBy b r) (hr:∀ k,r=some k→k=p∨k=q∨w.heap.size≤k):Touch2 w b p q:=by
 refine ⟨hg.os.trans h.os,hg.tape.trans h.tape,hg.output.trans h.output,Nat.le_trans h.size hg.size,fun k hk h1 h2=>?_⟩
 rw [hg.block k (Nat.lt_of_lt_of_le hk h.size) ?_]
 ·exact h.block k hk h1 h2
 ·intro e
  have:=hr k e.symm
  omega
theorem Touch2.drew {w a:World} {p q:Nat} (h:Touch2 w a p q):Touch2 w a.drew p q:=⟨h.os,h.tape,h.output,h.size,h.block⟩
theorem Touch2.later {w a b:World} {p q:Nat} (h:Touch2 w a p q) (hb:Below a.heap.size a b):Touch2 w b p q:=h.grown (jG (jU a none) hb) (fun k hk=>by cases hk)
theorem Touch2.below {w a:World} {p q B:Nat} (h:Touch2 w a p q) (hp:B≤p) (hq:B≤q) (hB:B≤w.heap.size):Below B w a:=⟨h.os,h.tape,h.output,h.size,fun k hk=>h.block k (by omega) (by omega) (by omega)⟩
theorem Touch2.keeps {w a:World} {p q k:Nat} {o:Obj} (h:Touch2 w a p q) (hk:w.heap[k]?=some o) (h1:k≠p) (h2:k≠q):a.heap[k]?=some o :=
 (h.block k (Array.getElem?_eq_some_iff.1 hk).1 h1 h2).trans hk
theorem Touch2.owns {w a:World} {p q base e size n:Nat} {v:Value} {xs:List Value} {Cp Cq:Array Value} {tp tq:TypeId} (h:Touch2 w a p q) (ho:w.ownsRow base e size v n xs) (hp:w.heap[p]?=some (.cells Cp tp (0,0))) (hq:w.heap[q]?=some (.cells Cq tq (0,0))) (h1:tp≠e) (h2:tq≠e):a.ownsRow base e size v n xs:=by
 refine ⟨ho.1,?_⟩
 rcases ho.2 with hn|⟨g,cap,cur,rfl,hb',hg',rest⟩
 ·exact .inl hn
 ·refine .inr ⟨g,cap,cur,rfl,hb',h.keeps hg' ?_ ?_,rest⟩
  ·rintro rfl
   rw [hg'] at hp
   cases hp
   exact h1 rfl
  ·rintro rfl
   rw [hg'] at hq
   cases hq
   exact h2 rfl
def Ki (R G:Nat) (key:Int) (c:Nat) (Qm:Nat→Nat→ModF) (Pv:Nat→Nat→Value) (g:Nat):List Value:=[.int .i64 ((jp R G g:Nat):Int),Pv g c,strB [77],.int .i64 (g:Int),.int .i64 (c:Int),.int .i64 0,strB (jO key (Qm g c)).1,strB (jO key (Qm g c)).2]
def xX (R G:Nat) (key:Int) (c:Nat) (Qm:Nat→Nat→ModF) (Pv:Nat→Nat→Value) (k:Nat):List Value:=(List.range k).flatMap (Ki R G key c Qm Pv)
theorem XZ (R G:Nat) (key:Int) (c:Nat) (Qm:Nat→Nat→ModF) (Pv:Nat→Nat→Value) (k:Nat):xX R G key c Qm Pv (k+1)=xX R G key c Qm Pv k++Ki R G key c Qm Pv k:=by
 unfold xX
 rw [List.range_succ,List.flatMap_append]
 simp
theorem KT {R G:Nat} {key:Int} {c:Nat} {Qm Qm':Nat→Nat→ModF} {Pv Pv':Nat→Nat→Value} {k:Nat} (h1:∀ g,g < k→Qm g c=Qm' g c) (h2:∀ g,g < k→Pv g c=Pv' g c):xX R G key c Qm Pv k=xX R G key c Qm' Pv' k:=by
 induction k with
 | zero=>rfl
 | succ k ih =>
  rw [XZ,XZ,ih (fun g hg=>h1 g (by omega)) (fun g hg=>h2 g (by omega))]
  unfold Ki
  rw [h1 k (by omega),h2 k (by omega)]
structure ColIn (t:List ColB) (R G P base:Nat) (w:World) (c k:Nat) (v:Value) (Qp:Nat→Nat→List ModF) (Qm:Nat→Nat→ModF) (Pv:Nat→Nat→Value):Prop where
 row:w.ownsRow base 157 8 v k (xX R G (jf t c).key c Qm Pv k)
 pages:∀ g,g < k→w.ownsRow base 75 6 (Pv g c) (Qp g c).length (xT (jf t c).key g c (Qp g c))
 ok:∀ g,g < k→ModsOk t (jh R G P g c) (Qp g c++[Qm g c])∧(Qp g c).length=jY (jp R G g) P
theorem ColIn.congr {t:List ColB} {R G P base:Nat} {w:World} {c k:Nat} {v:Value} {Qp Qp':Nat→Nat→List ModF} {Qm Qm':Nat→Nat→ModF} {Pv Pv':Nat→Nat→Value} (h:ColIn t R G P base w c k v Qp Qm Pv) (h1:∀ g,g < k→Qm g c=Qm' g c) (h2:∀ g,g < k→Pv g c=Pv' g c) (h3:∀ g,g < k→Qp g c=Qp' g c):ColIn t R G P base w c k v Qp' Qm' Pv':=by
 refine ⟨?_,fun g hg=>?_,fun g hg=>?_⟩
 ·rw [← KT h1 h2];exact h.row
 ·rw [← h2 g hg,← h3 g hg];exact h.pages g hg
 ·rw [← h1 g hg,← h3 g hg];exact h.ok g hg
theorem ColIn.keep {t:List ColB} {R G P base:Nat} {w w':World} {c k:Nat} {v:Value} {Qp:Nat→Nat→List ModF} {Qm:Nat→Nat→ModF} {Pv:Nat→Nat→Value} (h:ColIn t R G P base w c k v Qp Qm Pv)
  (h1:∀ n xs,w.ownsRow base 157 8 v n xs→w'.ownsRow base 157 8 v n xs) (h2:∀ u n xs,w.ownsRow base 75 6 u n xs→w'.ownsRow base 75 6 u n xs):ColIn t R G P base w' c k v Qp Qm Pv :=
 ⟨h1 _ _ h.row,fun g hg=>h2 _ _ _ (h.pages g hg),h.ok⟩
structure ShAt (t:List ColB) (R G P n Q p Kb:Nat) (H:List Value) (w0 w:World) (g c:Nat) (V:Nat→Value) (Qp:Nat→Nat→List ModF) (Qm:Nat→Nat→ModF) (Pv:Nat→Nat→Value):Prop where
 touch:Touch2 w0 w p Q
 sheet:w.heap[Q]?=some (.cells (H++[Value.slice (some ⟨Kb,0,none⟩) n n]).toArray 82 (0,0))
 new:w0.heap.size≤Kb
 kb:w.heap[Kb]?=some (.cells ((List.range n).map V).toArray 154 (0,0))
 cols:∀ i,i < n→ColIn t R G P w0.heap.size w i (if i < c then g+1 else g) (V i) Qp Qm Pv
 apart:∀ i j,i < n→j < n→i≠j→(V i).ownBlock=none∨(V i).ownBlock≠(V j).ownBlock
def upd {α:Type} (f:Nat→α) (c:Nat) (x:α):Nat→α:=fun i=>if i=c then x else f i
def XC {α:Type} (f:Nat→Nat→α) (g c:Nat) (x:α):Nat→Nat→α:=fun i j=>if i=g∧j=c then x else f i j
theorem BO {V:Nat→Value} {n c:Nat} {v:Value} (hc:c < n):((List.range n).map V).set c v=(List.range n).map (upd V c v):=by
 apply List.ext_getElem
 ·simp
 ·intro i h1 h2
  rw [List.getElem_set]
  simp only [List.getElem_map,List.getElem_range,upd]
  by_cases h:c=i
  ·rw [if_pos h,if_pos h.symm]
  ·rw [if_neg h,if_neg (fun e=>h e.symm)]
theorem ShAt.step {t:List ColB} {R G P n Q p Kb:Nat} {H:List Value} {w0 w w1 w2:World} {g c gg gc:Nat} {V:Nat→Value} {Qp:Nat→Nat→List ModF} {Qm:Nat→Nat→ModF} {Pv:Nat→Nat→Value} {s r:List UInt8} {mp:List ModF} {mm:ModF} {pv:Value} {o:Obj}
  (h:ShAt t R G P n Q p Kb H w0 w g c V Qp Qm Pv) (hc:c < n) (hrd:qy w p s r) (hpw:p < w0.heap.size) (hQw:Q < w0.heap.size) (hpQ:p≠Q)
  (hg1:w.grownBy w1 (some p)) (hpv:w1.ownsRow w.heap.size 75 6 pv mp.length (xT (jf t c).key g c mp)) (hok:ModsOk t (jh R G P g c) (mp++[mm])) (hml:mp.length=jY (jp R G g) P)
  (hown:w2.ownsRow w0.heap.size 157 8 (.slice (some ⟨gg,0,none⟩) (g+1) gc) (g+1) (xX R G (jf t c).key c Qm Pv g++[.int .i64 ((jp R G g:Nat):Int),pv,strB [77],.int .i64 (g:Int),.int .i64 (c:Int),.int .i64 0,strB (jO (jf t c).key mm).1,strB (jO (jf t c).key mm).2]))
  (hg2:(w1.alloc o).grownBy w2 (V c).ownBlock) (hat:(V c).ownBlock=some gg∨gg=(w1.alloc o).heap.size) :
  ShAt t R G P n Q p Kb H w0 (w2.setCell ⟨Kb,c,none⟩ (.slice (some ⟨gg,0,none⟩) (g+1) gc)) g (c+1) (upd V c (.slice (some ⟨gg,0,none⟩) (g+1) gc)) (XC Qp g c mp) (XC Qm g c mm) (XC Pv g c pv):=by
 have hcc:=h.cols c hc
 rw [if_neg (by omega)] at hcc
 have hrowc:=hcc.row
 have hrb:=zd hrd
 have hrow1:=qu hrowc hg1 hrb (by decide)
 have hrowA:=hrow1.alloc o
 -- the block of the row is fresh
 have hfresh:∀ k,(V c).ownBlock=some k→w0.heap.size≤k:=fun k hk=>(hrowc.lt k hk).1
 have hneR:∀ (k:Nat) (C:Array Value) (T:TypeId),(w1.alloc o).heap[k]?=some (.cells C T (0,0))→T≠157→w2.heap[k]?=some (.cells C T (0,0)):=fun k C T hk hT=>jz hg2 hrowA hk hT
 have hs1:=h.touch.size
 have hs2:=hg1.size
 have hKp:Kb≠p:=by have:=h.new;omega
 have hKQ:Kb≠Q:=by have:=h.new;omega
 have hkb1:=jk hg1 h.kb hKp
 have hkb2:=hneR Kb _ _ (jo o hkb1) (by decide)
 have hsh1:=jk hg1 h.sheet (Ne.symm hpQ)
 have hsh2:=hneR Q _ _ (jo o hsh1) (by decide)
 have hset:=qv w2 Kb c (.slice (some ⟨gg,0,none⟩) (g+1) gc)
 have t1:Touch2 w0 w1 p Q:=h.touch.grown hg1 (fun k hk=>by cases hk;exact .inl rfl)
 have tA:Touch2 w0 (w1.alloc o) p Q:=t1.grown (World.grownBy_alloc w1 o none) (fun k hk=>by cases hk)
 have t2:Touch2 w0 w2 p Q:=tA.grown hg2 (fun k hk=>.inr (.inr (hfresh k hk)))
 have t3:=t2.grown hset (fun k hk=>by cases hk;exact .inr (.inr h.new))
 have keepP:∀ u n xs,w.ownsRow w0.heap.size 75 6 u n xs→(w2.setCell ⟨Kb,c,none⟩ (.slice (some ⟨gg,0,none⟩) (g+1) gc)).ownsRow w0.heap.size 75 6 u n xs:=by
  intro u n xs hu
  have a1:=(qu hu hg1 hrb (by decide)).alloc o
  exact qu (a1.kept hg2 (zo a1 hrowA (by decide))) hset hkb2 (by decide)
 refine ⟨t3,jk hset hsh2 hKQ.symm,h.new,?_,?_,?_⟩
 ·rw [heap_setCell_same w2 Kb c _ _ _ hkb2]
  congr 2
  rw [← BO hc]
  simp
 ·intro i hi
  by_cases hic:i=c
  ·subst hic
   rw [if_pos (by omega)]
   refine ⟨?_,fun g' hg'=>?_,fun g' hg'=>?_⟩
   ·simp only [upd,if_true]
    rw [XZ]
    have e1:xX R G (jf t i).key i (XC Qm g i mm) (XC Pv g i pv) g=xX R G (jf t i).key i Qm Pv g:=KT (fun g' hg'=>by simp [XC];omega) (fun g' hg'=>by simp [XC];omega)
    rw [e1]
    have e2:Ki R G (jf t i).key i (XC Qm g i mm) (XC Pv g i pv) g=[.int .i64 ((jp R G g:Nat):Int),pv,strB [77],.int .i64 (g:Int),.int .i64 (i:Int),.int .i64 0,strB (jO (jf t i).key mm).1,strB (jO (jf t i).key mm).2]:=by simp [Ki,XC]
    rw [e2]
    exact qu hown hset hkb2 (by decide)
   ·by_cases hgg:g'=g
    ·subst hgg
     simp only [XC,and_self,if_true]
     have a1:=(jS hpv (show w0.heap.size≤w.heap.size from hs1)).alloc o
     exact qu (a1.kept hg2 (zo a1 hrowA (by decide))) hset hkb2 (by decide)
    ·have h1:=hcc.pages g' (by omega)
     simp only [XC,hgg,false_and,if_false]
     exact keepP _ _ _ h1
   ·by_cases hgg:g'=g
    ·subst hgg
     simp only [XC,and_self,if_true]
     exact ⟨hok,hml⟩
    ·simp only [XC,hgg,false_and,if_false]
     exact hcc.ok g' (by omega)
  ·have hci:=h.cols i hi
   have hk:(if i < c+1 then g+1 else g)=(if i < c then g+1 else g):=by
    by_cases h1:i < c
    ·rw [if_pos h1,if_pos (by omega)]
    ·rw [if_neg h1,if_neg (by omega)]
   rw [hk]
   have hV:upd V c (.slice (some ⟨gg,0,none⟩) (g+1) gc) i=V i:=by simp [upd,hic]
   rw [hV]
   refine (hci.keep (fun n xs hu=>?_) keepP).congr (fun g' _=>by simp [XC,hic]) (fun g' _=>by simp [XC,hic]) (fun g' _=>by simp [XC,hic])
   have a1:=(qu hu hg1 hrb (by decide)).alloc o
   exact qu (a1.kept hg2 (h.apart i c hi hc hic)) hset hkb2 (by decide)
 ·intro i j hi hj hij
  have hlt:∀ i,i < n→∀ k,(V i).ownBlock=some k→k < w.heap.size:=fun i hi k hk=>((h.cols i hi).row.lt k hk).2
  by_cases hic:i=c
  ·subst hic
   have hj':upd V i (.slice (some ⟨gg,0,none⟩) (g+1) gc) j=V j:=by simp [upd,Ne.symm hij]
   have hi':upd V i (.slice (some ⟨gg,0,none⟩) (g+1) gc) i=.slice (some ⟨gg,0,none⟩) (g+1) gc:=by simp [upd]
   rw [hj',hi']
   right
   show some gg≠_
   rcases hat with he|rfl
   ·rw [← he]
    rcases h.apart i j hi hj hij with h1|h1
    ·rw [h1] at he;cases he
    ·exact h1
   ·intro e
    have:=hlt j hj _ e.symm
    simp at this
    omega
  ·have hi':upd V c (.slice (some ⟨gg,0,none⟩) (g+1) gc) i=V i:=by simp [upd,hic]
   rw [hi']
   by_cases hjc:j=c
   ·subst hjc
    have hj':upd V j (.slice (some ⟨gg,0,none⟩) (g+1) gc) j=.slice (some ⟨gg,0,none⟩) (g+1) gc:=by simp [upd]
    rw [hj']
    show _∨_≠some gg
    rcases hat with he|rfl
    ·rw [← he]
     exact h.apart i j hi hj hij
    ·right
     intro e
     have:=hlt i hi _ e
     simp at this
     omega
   ·have hj':upd V c (.slice (some ⟨gg,0,none⟩) (g+1) gc) j=V j:=by simp [upd,hjc]
    rw [hj']
    exact h.apart i j hi hj hij
theorem ShAt.next {t:List ColB} {R G P n Q p Kb:Nat} {H:List Value} {w0 w:World} {g:Nat} {V:Nat→Value} {Qp:Nat→Nat→List ModF} {Qm:Nat→Nat→ModF} {Pv:Nat→Nat→Value} (h:ShAt t R G P n Q p Kb H w0 w g n V Qp Qm Pv):ShAt t R G P n Q p Kb H w0 w (g+1) 0 V Qp Qm Pv :=
 ⟨h.touch,h.sheet,h.new,h.kb,fun i hi=>by have:=h.cols i hi;rw [if_pos hi] at this;rw [if_neg (by omega)];exact this,h.apart⟩
theorem ShAt.later {t:List ColB} {R G P n Q p Kb:Nat} {H:List Value} {w0 w w':World} {g c:Nat} {V:Nat→Value} {Qp:Nat→Nat→List ModF} {Qm:Nat→Nat→ModF} {Pv:Nat→Nat→Value} (h:ShAt t R G P n Q p Kb H w0 w g c V Qp Qm Pv) (hb:Below w.heap.size w w'):ShAt t R G P n Q p Kb H w0 w' g c V Qp Qm Pv :=
 ⟨h.touch.later hb,jd hb h.sheet,h.new,jd hb h.kb,fun i hi=>(h.cols i hi).keep (fun n xs hu=>jN hu hb) (fun u n xs hu=>jN hu hb),h.apart⟩
end
end Go.Proofs.YthhpbhpfagoapabGreat
