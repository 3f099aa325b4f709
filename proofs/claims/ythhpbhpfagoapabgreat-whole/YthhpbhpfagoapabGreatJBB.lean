import Derived.Test.YthhpbhpfagoapabGreatRTk
import Derived.Test.YthhpbhpfagoapabGreatXRChunks
import Derived.Test.YthhpbhpfagoapabGreatJAT
import Derived.Laws.Tables
import Derived.Laws.Rows
import Derived.Test.YthhpbhpfagoapabGreatJAS
namespace Go.Proofs.YthhpbhpfagoapabGreat
set_option linter.unusedVariables false
set_option linter.unusedSimpArgs false
set_option maxRecDepth 100000
set_option maxHeartbeats 16000000
open Go.RowKit
section
theorem Xf {t:List ColB}:∀ (L:List SpotB) (M:List ModF) (n:Nat) (b:Bool),∀ x ∈ jL t n b L M,x≤n+(jn t L M).length:=by
 intro L
 induction L with
 | nil=>intro M n b x hx;simp [jL] at hx
 | cons s L ih =>
  intro M n b x hx
  cases M with
  | nil=>simp [jL] at hx
  | cons m M =>
   simp only [jL,List.mem_append] at hx
   simp only [jn,List.length_append]
   rcases hx with hx|hx
   ·split at hx
    ·simp at hx;omega
    ·simp at hx
   ·have:=ih M _ _ x hx
    omega
theorem DZ {foot:Nat} {parts footer:List UInt8} {S:SheetF} (hl:4+parts.length≤65000) (h:SheetOk foot parts footer S):FootOk foot S.rows S.plan S.cols (jL S.cols 4 true (qt S) S.mods) :=
 ⟨h.rows,h.plan,h.told,h.foot,h.heads,h.bare,JP h,fun x hx=>by
  have:=Xf _ _ _ _ x hx
  rw [← h.parts] at this
  omega⟩
structure SheetIn (S:SheetF) (f:FormF) (base:Nat) (w:World) (v:Value) (cv pv:Value) (Kb:Nat) (V:Nat→Value) (Qp:Nat→Nat→List ModF) (Qm:Nat→Nat→ModF) (Pv:Nat→Nat→Value):Prop where
 val:v=.agg #[.int .i64 (f.foot:Int),.bool f.told,strB f.footer,strB [if f.told=true then 83 else 70],.int .i64 0,.int .i64 0,.int .i64 0,strB f.nonce,strB f.body,strB (qg f),.int .i64 (S.rows:Int),.int .i64 S.plan.group,.int .i64 S.plan.page,.int .i64 S.plan.foot,.bool false,cv,pv,.slice (some ⟨Kb,0,none⟩) S.cols.length S.cols.length]
 cols:w.ownsRow base 31 4 cv S.cols.length (XU S.cols)
 pvs:∃ a m k,pv=.slice a m k
 small:∀ c ∈ S.cols,SmallC c
 new:base≤Kb
 kb:w.heap[Kb]?=some (.cells ((List.range S.cols.length).map V).toArray 154 (0,0))
 chunks:∀ i,i < S.cols.length→ColIn S.cols S.rows S.plan.group.toNat S.plan.page.toNat base w i (jX S.rows S.plan.group.toNat) (V i) Qp Qm Pv
 mods:S.mods=xk (fun g c=>Qp g c++[Qm g c]) S.cols.length (jX S.rows S.plan.group.toNat)
theorem ColIn.lower {t:List ColB} {R G P base b:Nat} {w:World} {c k:Nat} {v:Value} {Qp:Nat→Nat→List ModF} {Qm:Nat→Nat→ModF} {Pv:Nat→Nat→Value} (h:ColIn t R G P base w c k v Qp Qm Pv) (hb:b≤base):ColIn t R G P b w c k v Qp Qm Pv :=
 ⟨jS h.row hb,fun g hg=>jS (h.pages g hg) hb,h.ok⟩
theorem SheetIn.grown {S:SheetF} {f:FormF} {base q:Nat} {w w':World} {v cv pv:Value} {Kb:Nat} {V:Nat→Value} {Qp:Nat→Nat→List ModF} {Qm:Nat→Nat→ModF} {Pv:Nat→Nat→Value} {C:Array Value} {T:TypeId} (h:SheetIn S f base w v cv pv Kb V Qp Qm Pv) (hg:w.grownBy w' (some q)) (hq:w.heap[q]?=some (.cells C T (0,0))) (h1:T≠31) (h2:T≠154) (h3:T≠157) (h4:T≠75):SheetIn S f base w' v cv pv Kb V Qp Qm Pv:=by
 refine ⟨h.val,qq h.cols hg hq h1,h.pvs,h.small,h.new,jk hg h.kb ?_,fun i hi=>(h.chunks i hi).keep (fun n xs hu=>qq hu hg hq h3) (fun u n xs hu=>qq hu hg hq h4),h.mods⟩
 rintro rfl
 have:=h.kb
 rw [hq] at this
 simp only [Option.some.injEq,Obj.cells.injEq] at this
 exact h2 this.2.1
theorem SheetIn.later {S:SheetF} {f:FormF} {base:Nat} {w w':World} {v cv pv:Value} {Kb:Nat} {V:Nat→Value} {Qp:Nat→Nat→List ModF} {Qm:Nat→Nat→ModF} {Pv:Nat→Nat→Value} (h:SheetIn S f base w v cv pv Kb V Qp Qm Pv) (hb:Below w.heap.size w w'):SheetIn S f base w' v cv pv Kb V Qp Qm Pv :=
 ⟨h.val,jN h.cols hb,h.pvs,h.small,h.new,jd hb h.kb,fun i hi=>(h.chunks i hi).keep (fun n xs hu=>jN hu hb) (fun u n xs hu=>jN hu hb),h.mods⟩
theorem SheetIn.lower {S:SheetF} {f:FormF} {base b:Nat} {w:World} {v cv pv:Value} {Kb:Nat} {V:Nat→Value} {Qp:Nat→Nat→List ModF} {Qm:Nat→Nat→ModF} {Pv:Nat→Nat→Value} (h:SheetIn S f base w v cv pv Kb V Qp Qm Pv) (hb:b≤base):SheetIn S f b w v cv pv Kb V Qp Qm Pv :=
 ⟨h.val,jS h.cols hb,h.pvs,h.small,Nat.le_trans hb h.new,h.kb,fun i hi=>(h.chunks i hi).lower hb,h.mods⟩
def qO (S:SheetF) (f:FormF) (cv pv:Value) (Kb:Nat):Array Value:=#[.int .i64 (f.foot:Int),.bool f.told,strB f.footer,strB [if f.told=true then 83 else 70],.int .i64 0,.int .i64 0,.int .i64 0,strB f.nonce,strB f.body,strB (qg f),.int .i64 (S.rows:Int),.int .i64 S.plan.group,.int .i64 S.plan.page,.int .i64 S.plan.foot,.bool false,cv,pv,.slice (some ⟨Kb,0,none⟩) S.cols.length S.cols.length]
theorem SheetIn.one {S:SheetF} {f:FormF} {base:Nat} {w:World} {v cv pv:Value} {Kb:Nat} {V:Nat→Value} {Qp:Nat→Nat→List ModF} {Qm:Nat→Nat→ModF} {Pv:Nat→Nat→Value} (h:SheetIn S f base w v cv pv Kb V Qp Qm Pv):v=.agg (qO S f cv pv Kb)∧(qO S f cv pv Kb).size=18∧(qO S f cv pv Kb).all (·.oneCell')=true:=by
 refine ⟨h.val,rfl,?_⟩
 obtain ⟨a,m,k,rfl⟩:=h.pvs
 obtain ⟨ca,cc,rfl⟩:=jK h.cols
 simp [qO,Value.oneCell']
def Sk (f:FormF) (footer:List UInt8) (w:World) (e:Ending) (w':World):Prop :=
 Below w.heap.size w w'∧((e=gaveUp∧xT f.foot f.parts footer=none) ∨
  ∃ S v cv pv Kb V Qp Qm Pv,xT f.foot f.parts footer=some S∧SheetOk f.foot f.parts footer S∧e=.returned v∧SheetIn S f w.heap.size w' v cv pv Kb V Qp Qm Pv)
theorem RP {text:List UInt8} {foot:Nat} {w:World} {e:Ending} {w':World} (h:Iw text foot w e w') (hn:∀ R p t pl,FootOk foot R p t pl→text≠qo R p t pl):e=gaveUp∧Below w.heap.size w w':=by
 obtain ⟨hb,⟨he,_⟩|⟨R,p,t,pl,cv,pv,hok,ht,_⟩⟩:=h
 ·exact ⟨he,hb⟩
 ·exact absurd ht (hn R p t pl hok)
theorem GC {text:List UInt8} {foot:Nat} {w:World} {e:Ending} {w':World} {R:Nat} {p:PlanB} {t:List ColB} {pl:List Nat} (h:Iw text foot w e w') (h1:FootOk foot R p t pl) (h2:text=qo R p t pl) :
  ∃ R p t pl cv pv,Below w.heap.size w w'∧FootOk foot R p t pl∧text=qo R p t pl∧(∀ c ∈ t,SmallC c)∧e=.returned (footV R p cv pv)∧w'.ownsRow w.heap.size 31 4 cv t.length (XU t)∧w'.ownsRow w.heap.size 3 1 pv pl.length (xG pl):=by
 obtain ⟨hb,⟨he,hno⟩|⟨R',p',t',pl',cv,pv,hok,ht,hsm,he,hc,hp⟩⟩:=h
 ·exact absurd h2 (hno R p t pl h1)
 ·exact ⟨R',p',t',pl',cv,pv,hb,hok,ht,hsm,he,hc,hp⟩
theorem AH {foot R:Nat} {p:PlanB} {t:List ColB} {pl:List Nat} (h:FootOk foot R p t pl):∃ G P:Nat,p=⟨(G:Int),(P:Int),(foot:Int),false⟩∧1≤G∧G≤60∧1≤P∧P≤60:=by
 have h1:=h.plan
 simp only [qP,Bool.and_eq_true,decide_eq_true_eq] at h1
 refine ⟨p.group.toNat,p.page.toNat,?_,by omega,by omega,by omega,by omega⟩
 have h2:=h.foot
 have h3:=h.told
 cases p
 simp only [PlanB.mk.injEq] at *
 exact ⟨by omega,by omega,h2,h3⟩
theorem Za (f:FormF):(qg f).drop 4=f.parts∧4≤(qg f).length∧(qg f).length=4+f.parts.length:=by
 have:(QE f.told f.foot).length=4:=rfl
 have h2:(qg f).length=4+f.parts.length:=by unfold qg;rw [List.length_append,this]
 exact ⟨by unfold qg;rw [← this,List.drop_left],by omega,h2⟩
theorem MG {foot R:Nat} {G P:Nat} {t:List ColB} {pl:List Nat} {parts footer:List UInt8} {S:SheetF} (hF:FootOk foot R ⟨(G:Int),(P:Int),(foot:Int),false⟩ t pl) (hsm:∀ c ∈ t,SmallC c) (htx:footer=qo R ⟨(G:Int),(P:Int),(foot:Int),false⟩ t pl) (hS:SheetOk foot parts footer S) :
  S.rows=R∧S.plan=⟨(G:Int),(P:Int),(foot:Int),false⟩∧S.cols=t∧qt S=qk R t.length G P∧jL t 4 true (qk R t.length G P) S.mods=pl∧ModsOk t (qk R t.length G P) S.mods∧parts=jn t (qk R t.length G P) S.mods:=by
 obtain ⟨e1,e2,e3,e4,e5,e6⟩:=ZT (JP hS) hF.len (hS.footer.symm.trans htx)
 have hp:=Cz hS.plan hF.plan (hS.told.trans rfl) e2 e3 e4
 have hc:S.cols=t:=Yl (Qj hS.heads hS.bare) hsm e5
 have hs:qt S=qk R t.length G P:=by unfold qt;rw [e1,hp,hc];rfl
 refine ⟨e1,hp,hc,hs,?_,?_,?_⟩
 ·rw [← hs,← hc];exact e6
 ·have:=hS.mods;rw [hs,hc] at this;exact this
 ·have:=hS.parts;rw [hs,hc] at this;exact this
theorem jx (w:World) (g:Nat) (cs:Array Value):w.grownBy (w.setRow g cs) (some g) :=
 ⟨rfl,rfl,rfl,by simp,fun k _ hk=>setRow_other w g k cs (fun e=>hk (by rw [e]))⟩
theorem Pr (f:FormF) (footer:List UInt8) (w:World) (hs:footer.length≤maxLen) (hl:(qg f).length≤65000) :
  Calls Tryz.prog 108 #[formV f,strB footer] w (Sk f footer w):=by
 have Hs:=hid hs
 have H100:Hid ((qg f).length≤maxLen):=Nat.le_trans hl (by decide)
 have hl4:4+f.parts.length≤65000:=by
  have:(qg f).length=4+f.parts.length:=by simp [qg,QE];omega
  omega
 clear hs
 generalize hsb:(if f.told=true then (83:UInt8) else 70)=sb at *
 have Hsb:=hid hsb
 have HFV:Hid (formV f=.agg #[.int .i64 (f.foot:Int),.bool f.told,strB f.footer,strB [sb],.int .i64 0,.int .i64 0,.int .i64 0,strB f.nonce,strB f.body,strB (qg f)]):=by show _=_;rw [formV,hsb]
 clear hsb
 have hfv:=HFV.out
 rw [hfv]
 clear hfv
 obtain ⟨hb0,hl0,hm0,ho0⟩:=JQ w #[.int .i64 (f.foot:Int),.bool f.told,strB f.footer,strB [sb],.int .i64 0,.int .i64 0,.int .i64 0,strB f.nonce,strB f.body,strB (qg f)] 77 #[.int .i64 0,.bool false,Value.string { data:=#[] },Value.string { data:=#[] },.int .i64 0,.int .i64 0,.int .i64 0,Value.string { data:=#[] },Value.string { data:=#[] },Value.string { data:=#[] },.int .i64 0,.int .i64 0,.int .i64 0,.int .i64 0,.bool false,.slice none 0 0,.slice none 0 0,.slice none 0 0] 82
 go_enter Tryz.func108,Tryz.ntmps108
 go_wp2_with fail
 generalize (w.alloc _).alloc _=W0 at *
 have HB0:=hid hb0
 have Hm0:=hid hm0
 have Ho0:=hid ho0
 have HC0:=hid (xA hm0).1
 clear hb0 hm0 ho0
 by_cases hx:¬ ∃ R p t pl,FootOk f.foot R p t pl∧footer=qo R p t pl
 ·have HN:Hid (xT f.foot f.parts footer=none):=Kr (fun S hS=>hx ⟨_,_,_,_,DZ hl4 hS,hS.footer⟩)
  have HNX:Hid (∀ R p t pl,FootOk f.foot R p t pl→footer≠qo R p t pl):=fun R p t pl h1 h2=>hx ⟨R,p,t,pl,h1,h2⟩
  clear hx
  refine wp_region_held_drew (S:=fun w'=>w'.cell? ⟨w.heap.size,0,none⟩=some (.int .i64 (f.foot:Int))∧w'.cell? ⟨w.heap.size,1,none⟩=some (.bool f.told)∧w'.cell? ⟨w.heap.size,2,none⟩=some (strB f.footer)∧w'.cell? ⟨w.heap.size,3,none⟩=some (strB [sb])∧w'.cell? ⟨w.heap.size,4,none⟩=some (.int .i64 0)∧w'.cell? ⟨w.heap.size,5,none⟩=some (.int .i64 0)∧w'.cell? ⟨w.heap.size,6,none⟩=some (.int .i64 0)∧w'.cell? ⟨w.heap.size,7,none⟩=some (strB f.nonce)∧w'.cell? ⟨w.heap.size,8,none⟩=some (strB f.body)∧w'.cell? ⟨w.heap.size,9,none⟩=some (strB (qg f))) (by kernel_rfl) ?_ (fun hHeld=>?_)
  ·exact HC0.out
  refine tk 0 (.agg #[.int .i64 (f.foot:Int),.bool f.told,strB f.footer,strB [sb],.int .i64 0,.int .i64 0,.int .i64 0,strB f.nonce,strB f.body,strB (qg f)]) ?_
  refine tk 1 (strB footer) ?_
  refine tk 2 (.pointer (some ⟨w.heap.size,0,none⟩)) ?_
  refine tk 3 (.int .i64 (f.foot:Int)) ?_
  simp only [jA,jB,jC,Act.put,jD,jE,jF]
  refine wpAnyH_ready (rs:=[4,6]) (by kernel_rfl) (by simp) ?_
  refine AllReadyH.cons (o:=_) rfl (fun K hK=>?_) (AllReadyH.cons (o:=_) rfl (fun K hK=>?_) AllReadyH.nil)
  ·simp only [jA,jB,jC]
   go_simp
   go_at_call 126
   refine (Qr footer f.foot _ Hs.out).mono ?_
   intro e w1 h1
   obtain ⟨rfl,hb1⟩:=RP h1 HNX.out
   exact ⟨rfl,HB0.out.trans (jl (hb1.mono HB0.out.size)),.inl ⟨rfl,HN.out⟩⟩
  ·simp only [jA,jB,jC]
   go_simp
   try go_wp2_with fail
   have hbA:=(Below.refl W0.drew.heap.size W0.drew).alloc (Nat.le_refl _) (.cells #[.int .i64 0,.bool false,Value.string { data:=#[] },Value.string { data:=#[] },.int .i64 0,.int .i64 0,.int .i64 0,Value.string { data:=#[] },Value.string { data:=#[] },Value.string { data:=#[] },.int .i64 0,.int .i64 0,.int .i64 0,.int .i64 0,.bool false,.slice none 0 0,.slice none 0 0,.slice none 0 0] 82)
   have HCA:=hid (xA (jd (jl hbA) Hm0.out)).1
   refine hK.out _ _ HCA.out (fun hHeld=>?_)
   clear hK K
   try simp only [jA,jB,jC,Act.put,jD,jE,jF]
   refine rd 4 (fun K hK=>?_)
   simp only [jA,jB,jC]
   go_simp
   go_at_call 126
   refine (Qr footer f.foot _ Hs.out).mono ?_
   intro e w1 h1
   obtain ⟨rfl,hb1⟩:=RP h1 HNX.out
   exact ⟨rfl,HB0.out.trans ((jl hbA).mono HB0.out.size |>.trans (hb1.mono (Nat.le_trans HB0.out.size (by simp)))),.inl ⟨rfl,HN.out⟩⟩
 ·obtain ⟨R,p0,t,pl,hF1,hF2⟩:=Classical.not_not.1 hx
  have HF:=hid (And.intro hF1 hF2)
  clear hx hF1 hF2
  obtain ⟨x0,x1,x2,x3,x4,x5,x6,x7,x8,x9⟩:=HC0.out
  have hsz0:=HB0.out.size
  have HR0:=hid Ho0.out
  refine wp_region_held_drew (S:=fun w'=>w'.cell? ⟨w.heap.size,0,none⟩=some (.int .i64 (f.foot:Int))∧w'.cell? ⟨w.heap.size,1,none⟩=some (.bool f.told)∧w'.cell? ⟨w.heap.size,2,none⟩=some (strB f.footer)∧w'.cell? ⟨w.heap.size,3,none⟩=some (strB [sb])∧w'.cell? ⟨w.heap.size,4,none⟩=some (.int .i64 0)∧w'.cell? ⟨w.heap.size,5,none⟩=some (.int .i64 0)∧w'.cell? ⟨w.heap.size,6,none⟩=some (.int .i64 0)∧w'.cell? ⟨w.heap.size,7,none⟩=some (strB f.nonce)∧w'.cell? ⟨w.heap.size,8,none⟩=some (strB f.body)∧w'.cell? ⟨w.heap.size,9,none⟩=some (strB (qg f))) (by kernel_rfl) ?_ (fun hHeld=>?_)
  ·exact HC0.out
  refine tk 0 (.agg #[.int .i64 (f.foot:Int),.bool f.told,strB f.footer,strB [sb],.int .i64 0,.int .i64 0,.int .i64 0,strB f.nonce,strB f.body,strB (qg f)]) ?_
  refine tk 1 (strB footer) ?_
  refine tk 2 (.pointer (some ⟨w.heap.size,0,none⟩)) ?_
  refine tk 3 (.int .i64 (f.foot:Int)) ?_
  simp only [jA,jB,jC,Act.put,jD,jE,jF]
  refine wpAnyH_ready (rs:=[4,6]) (by kernel_rfl) (by simp) ?_
  refine AllReadyH.cons (o:=_) rfl (fun K hK=>?_) (AllReadyH.cons (o:=_) rfl (fun K hK=>?_) AllReadyH.nil)
  case' refine_1 =>
   simp only [jA,jB,jC]
   go_simp
   go_at_call 126
   refine (Qr footer f.foot _ Hs.out).mono ?_
   intro e w1 h1
   obtain ⟨R1,p1,t1,pl1,cv,pv,hb1,hok1,htx1,hsm1,he1,hcv1,hpv1⟩:=GC h1 HF.out.1 HF.out.2
   obtain ⟨ca,cc,rfl⟩:=jK hcv1
   obtain ⟨pa,pc,rfl⟩:=jK hpv1
   obtain ⟨G1,P1,rfl,hG1,hG6,hP1,hP6⟩:=AH hok1
   subst he1
   have hb1':=jl hb1
   have HD1:=hid (xA (jd hb1' Hm0.out)).1
   have Hm1:=hid (jd hb1' Hm0.out)
   have Hr1:=hid (jd hb1' Ho0.out)
   have HB1:=hid (HB0.out.trans (hb1'.mono HB0.out.size))
   have HK1:=hid (And.intro hok1 (And.intro htx1 hsm1))
   have Hc1:=hid (jS hcv1 (show w.heap.size≤W0.drew.heap.size from HB0.out.size))
   have Hp1:=hid (jS hpv1 (show w.heap.size≤W0.drew.heap.size from HB0.out.size))
   have hsz1:=hb1'.size
   clear hb1 hb1' h1 hok1 htx1 hsm1 hcv1 hpv1
   try go_wp2_with fail
   refine hK.out _ _ HD1.out (fun hHeld=>?_)
   clear hK K
   try simp only [jA,jB,jC,Act.put,jD,jE,jF]
   refine tk 5 (.agg #[.int .i64 (f.foot:Int),.bool f.told,strB f.footer,strB [sb],.int .i64 0,.int .i64 0,.int .i64 0,strB f.nonce,strB f.body,strB (qg f),.int .i64 (R1:Int),.int .i64 (G1:Int),.int .i64 (P1:Int),.int .i64 (f.foot:Int),.bool false,.slice ca t1.length cc,.slice pa pl1.length pc,.slice none 0 0]) ?_
   simp only [jA,jB,jC,Act.put,jD,jE,jF]
   refine rd 6 (fun K hK=>?_)
   simp only [jA,jB,jC]
   go_simp
   obtain ⟨hbW,hlW,_,hQW⟩:=jJ w1 #[.int .i64 0,.bool false,Value.string { data:=#[] },Value.string { data:=#[] },.int .i64 0,.int .i64 0,.int .i64 0,Value.string { data:=#[] },Value.string { data:=#[] },Value.string { data:=#[] },.int .i64 0,.int .i64 0,.int .i64 0,.int .i64 0,.bool false,.slice none 0 0,.slice none 0 0,.slice none 0 0] 82
   generalize w1.alloc _=WW at *
   have HQ:=hid hQW
   have HmW:=hid (jd hbW Hm1.out)
   have HrW:=hid (jd hbW Hr1.out)
   have HDW:=hid (xA HmW.out).1
   have HBW:=hid (HB1.out.trans (hbW.mono HB1.out.size))
   have Hcv:=hid (jN Hc1.out hbW)
   have Hpv:=hid (jN Hp1.out hbW)
   generalize hQQ:w1.heap.size=QQ at *
   have hQlo:w.heap.size+1 < QQ:=by omega
   clear hbW hQW hQQ
   try go_wp2_with fail
   refine hK.out _ _ HDW.out (fun hHeld=>?_)
   clear hK K
   try simp only [jA,jB,jC,Act.put,jD,jE,jF]
   refine rd 7 (fun K hK=>?_)
   simp only [jA,jB,jC]
   rw [if_pos (by simp [Region.wanted])]
   refine wp_store_row 82 (.tmp 5) (.tmp 12) rfl QQ #[.int .i64 (f.foot:Int),.bool f.told,strB f.footer,strB [sb],.int .i64 0,.int .i64 0,.int .i64 0,strB f.nonce,strB f.body,strB (qg f),.int .i64 (R1:Int),.int .i64 (G1:Int),.int .i64 (P1:Int),.int .i64 (f.foot:Int),.bool false,.slice ca t1.length cc,.slice pa pl1.length pc,.slice none 0 0] rfl rfl 82 #[.int .i64 0,.bool false,Value.string { data:=#[] },Value.string { data:=#[] },.int .i64 0,.int .i64 0,.int .i64 0,Value.string { data:=#[] },Value.string { data:=#[] },Value.string { data:=#[] },.int .i64 0,.int .i64 0,.int .i64 0,.int .i64 0,.bool false,.slice none 0 0,.slice none 0 0,.slice none 0 0] HQ.out (by kernel_rfl) rfl (by simp [Value.oneCell']) ?_
   have HoE:=hid (setRow_heap WW QQ _ #[.int .i64 (f.foot:Int),.bool f.told,strB f.footer,strB [sb],.int .i64 0,.int .i64 0,.int .i64 0,strB f.nonce,strB f.body,strB (qg f),.int .i64 (R1:Int),.int .i64 (G1:Int),.int .i64 (P1:Int),.int .i64 (f.foot:Int),.bool false,.slice ca t1.length cc,.slice pa pl1.length pc,.slice none 0 0] 82 (0,0) HQ.out)
   have HgE:=hid (jx WW QQ #[.int .i64 (f.foot:Int),.bool f.told,strB f.footer,strB [sb],.int .i64 0,.int .i64 0,.int .i64 0,strB f.nonce,strB f.body,strB (qg f),.int .i64 (R1:Int),.int .i64 (G1:Int),.int .i64 (P1:Int),.int .i64 (f.foot:Int),.bool false,.slice ca t1.length cc,.slice pa pl1.length pc,.slice none 0 0])
   generalize WW.setRow _ _=WE at *
   have HmE:=hid (jk HgE.out HmW.out (by omega))
   have HrE:=hid (jk HgE.out HrW.out (by omega))
   have HcE:=hid (qq Hcv.out HgE.out HQ.out (by decide))
   have HpE:=hid (qq Hpv.out HgE.out HQ.out (by decide))
   have HBE:=hid (HBW.out.trans (jq HgE.out (by omega) HBW.out.size))
   have HCE:=hid (xA HmE.out).1
   refine hK.out _ _ HCE.out (fun hHeld=>?_)
   clear hK K
   refine wpAnyH_done (by kernel_rfl) ?_ _
  case' refine_2 =>
   simp only [jA,jB,jC]
   go_simp
   try go_wp2_with fail
   obtain ⟨hbA,hlA,_,hQA⟩:=jJ W0 #[.int .i64 0,.bool false,Value.string { data:=#[] },Value.string { data:=#[] },.int .i64 0,.int .i64 0,.int .i64 0,Value.string { data:=#[] },Value.string { data:=#[] },Value.string { data:=#[] },.int .i64 0,.int .i64 0,.int .i64 0,.int .i64 0,.bool false,.slice none 0 0,.slice none 0 0,.slice none 0 0] 82
   have hbA':=hbA
   generalize W0.alloc _=WA at *
   have HmA:=hid (jd hbA' Hm0.out)
   have HrA:=hid (jd hbA' Ho0.out)
   have HDA:=hid (xA HmA.out).1
   have HBA:=hid (HB0.out.trans (hbA'.mono HB0.out.size))
   have HQA:=hid hQA
   have hszA:W0.heap.size < WA.heap.size:=hlA
   clear hbA hbA' hQA
   refine hK.out _ _ HDA.out (fun hHeld=>?_)
   clear hK K
   try simp only [jA,jB,jC,Act.put,jD,jE,jF]
   refine rd 4 (fun K hK=>?_)
   simp only [jA,jB,jC]
   go_simp
   go_at_call 126
   refine (Qr footer f.foot _ Hs.out).mono ?_
   intro e WW h1
   obtain ⟨R1,p1,t1,pl1,cv,pv,hb1q,hok1,htx1,hsm1,he1,hcv1,hpv1⟩:=GC h1 HF.out.1 HF.out.2
   obtain ⟨ca,cc,rfl⟩:=jK hcv1
   obtain ⟨pa,pc,rfl⟩:=jK hpv1
   obtain ⟨G1,P1,rfl,hG1,hG6,hP1,hP6⟩:=AH hok1
   subst he1
   have hb1':=jl hb1q
   have HmW:=hid (jd hb1' HmA.out)
   have HDW:=hid (xA HmW.out).1
   have HrW:=hid (jd hb1' HrA.out)
   have HBW:=hid (HBA.out.trans (hb1'.mono HBA.out.size))
   have HK1:=hid (And.intro hok1 (And.intro htx1 hsm1))
   have Hcv:=hid (jS hcv1 (show w.heap.size≤WA.heap.size from HBA.out.size))
   have Hpv:=hid (jS hpv1 (show w.heap.size≤WA.heap.size from HBA.out.size))
   have hsz1:=hb1'.size
   have hQ0:=jd hb1' HQA.out
   have HQ:Hid (WW.heap[W0.heap.size]?=some (.cells #[.int .i64 0,.bool false,Value.string { data:=#[] },Value.string { data:=#[] },.int .i64 0,.int .i64 0,.int .i64 0,Value.string { data:=#[] },Value.string { data:=#[] },Value.string { data:=#[] },.int .i64 0,.int .i64 0,.int .i64 0,.int .i64 0,.bool false,.slice none 0 0,.slice none 0 0,.slice none 0 0] 82 (0,0))):=hQ0
   have hlW:W0.heap.size < WW.heap.size:=by omega
   clear hb1' hb1q h1 hok1 htx1 hsm1 hcv1 hpv1 hQ0
   generalize hQQ:W0.heap.size=QQ at *
   have hQlo:w.heap.size+1 < QQ:=by omega
   clear hQQ
   try go_wp2_with fail
   refine hK.out _ _ HDW.out (fun hHeld=>?_)
   clear hK K
   try simp only [jA,jB,jC,Act.put,jD,jE,jF]
   refine tk 5 (.agg #[.int .i64 (f.foot:Int),.bool f.told,strB f.footer,strB [sb],.int .i64 0,.int .i64 0,.int .i64 0,strB f.nonce,strB f.body,strB (qg f),.int .i64 (R1:Int),.int .i64 (G1:Int),.int .i64 (P1:Int),.int .i64 (f.foot:Int),.bool false,.slice ca t1.length cc,.slice pa pl1.length pc,.slice none 0 0]) ?_
   simp only [jA,jB,jC,Act.put,jD,jE,jF]
   refine rd 7 (fun K hK=>?_)
   simp only [jA,jB,jC]
   rw [if_pos (by simp [Region.wanted])]
   refine wp_store_row 82 (.tmp 5) (.tmp 12) rfl QQ #[.int .i64 (f.foot:Int),.bool f.told,strB f.footer,strB [sb],.int .i64 0,.int .i64 0,.int .i64 0,strB f.nonce,strB f.body,strB (qg f),.int .i64 (R1:Int),.int .i64 (G1:Int),.int .i64 (P1:Int),.int .i64 (f.foot:Int),.bool false,.slice ca t1.length cc,.slice pa pl1.length pc,.slice none 0 0] rfl rfl 82 #[.int .i64 0,.bool false,Value.string { data:=#[] },Value.string { data:=#[] },.int .i64 0,.int .i64 0,.int .i64 0,Value.string { data:=#[] },Value.string { data:=#[] },Value.string { data:=#[] },.int .i64 0,.int .i64 0,.int .i64 0,.int .i64 0,.bool false,.slice none 0 0,.slice none 0 0,.slice none 0 0] HQ.out (by kernel_rfl) rfl (by simp [Value.oneCell']) ?_
   have HoE:=hid (setRow_heap WW QQ _ #[.int .i64 (f.foot:Int),.bool f.told,strB f.footer,strB [sb],.int .i64 0,.int .i64 0,.int .i64 0,strB f.nonce,strB f.body,strB (qg f),.int .i64 (R1:Int),.int .i64 (G1:Int),.int .i64 (P1:Int),.int .i64 (f.foot:Int),.bool false,.slice ca t1.length cc,.slice pa pl1.length pc,.slice none 0 0] 82 (0,0) HQ.out)
   have HgE:=hid (jx WW QQ #[.int .i64 (f.foot:Int),.bool f.told,strB f.footer,strB [sb],.int .i64 0,.int .i64 0,.int .i64 0,strB f.nonce,strB f.body,strB (qg f),.int .i64 (R1:Int),.int .i64 (G1:Int),.int .i64 (P1:Int),.int .i64 (f.foot:Int),.bool false,.slice ca t1.length cc,.slice pa pl1.length pc,.slice none 0 0])
   generalize WW.setRow _ _=WE at *
   have HmE:=hid (jk HgE.out HmW.out (by omega))
   have HrE:=hid (jk HgE.out HrW.out (by omega))
   have HcE:=hid (qq Hcv.out HgE.out HQ.out (by decide))
   have HpE:=hid (qq Hpv.out HgE.out HQ.out (by decide))
   have HBE:=hid (HBW.out.trans (jq HgE.out (by omega) HBW.out.size))
   have HCE:=hid (xA HmE.out).1
   refine hK.out _ _ HCE.out (fun hHeld=>?_)
   clear hK K
   refine wpAnyH_done (by kernel_rfl) ?_ _
  all_goals
   have hszW:=HBE.out.size
   obtain ⟨_,_,_,_,_,_,_,_,_,x9⟩:=(xA HmE.out).1
   have hQE:=(Array.getElem?_eq_some_iff.1 HoE.out).1
   clear hHeld
   go_wp2_with fail
   clear x9
   refine (Zl (qg f) WE).mono ?_
   rintro e w3 ⟨rfl,hrd3,hb3⟩
   have HQ3:=hid (jd hb3 HoE.out)
   have HR3:=hid (jd hb3 HrE.out)
   have HC3:=hid (jN HcE.out hb3)
   have HP3:=hid (jN HpE.out hb3)
   have HB3:=hid (HBE.out.trans (hb3.mono HBE.out.size))
   have hz3:=hb3.size
   generalize hpp:WE.heap.size=p at *
   clear hb3 hpp
   go_wp2_with fail
   obtain ⟨hd1,hd2,hd3⟩:=Za f
   refine (Jn p (qg f) (qg f) 4 w3 H100.out (by decide) hrd3).mono ?_
   rintro e w4 ⟨hg4,⟨hlt,rfl⟩|⟨hle,rfl,hp4⟩⟩
   ·exact absurd hd2 (Nat.not_le_of_lt hlt)
   rw [hd1] at hp4
   have HQ4:=hid (jk hg4 HQ3.out (by omega))
   have HR4:=hid (jk hg4 HR3.out (by omega))
   have HC4:=hid (qq HC3.out hg4 (ze hrd3) (by decide))
   have HP4:=hid (qq HP3.out hg4 (ze hrd3) (by decide))
   have HB4:=hid (HB3.out.trans (jq hg4 (by omega) (by omega)))
   have hz4:=hg4.size
   have Hp4:=hid hp4
   have Hd3:=hid hd3
   clear hg4 hp4 hrd3 hd1 hd2 hd3 hle
   generalize (qg f).take 4=hd4 at *
   obtain ⟨hok1,htx1,hsm1⟩:=HK1.out
   have hh1:=hok1.heads
   simp only [qc,Bool.and_eq_true,decide_eq_true_eq] at hh1
   have HOK1:=hid hok1
   have HTX:=hid htx1
   have HSM:=hid hsm1
   have hR60:=hok1.rows
   have hn16:=hh1.2
   have HLEN:=hid hok1.len
   clear hok1 htx1 hsm1 hh1
   go_wp2_with fail
   refine (RK t1 R1 G1 P1 t1.length QQ p w.heap.size pl1.length _ _ _ _ _ _ _ _ _ _ _ _ _ _ pl1 (qg f) f.parts w4 H100.out Hp4.out (by rw [Hd3.out];exact Nat.add_sub_cancel _ _) hR60 hG1 hG6 hP1 hP6 hn16.1 hn16.2 rfl (by rw [HLEN.out];rfl) rfl HQ4.out HC4.out HP4.out (by omega)).mono ?_
   have HSAME:Hid (∀ S,SheetOk f.foot f.parts footer S→S.rows=R1∧S.plan=⟨(G1:Int),(P1:Int),(f.foot:Int),false⟩∧S.cols=t1∧qt S=qk R1 t1.length G1 P1∧jL t1 4 true (qk R1 t1.length G1 P1) S.mods=pl1∧ModsOk t1 (qk R1 t1.length G1 P1) S.mods∧f.parts=jn t1 (qk R1 t1.length G1 P1) S.mods):=fun S hS=>MG HOK1.out HSM.out HTX.out hS
   rintro e w5 ⟨hT,⟨rfl,hno⟩|⟨Kb,V,Qp,Qm,Pv,r,rfl,hSh,hrd5,hmok,hbytes,hpl⟩⟩
   ·have HN:Hid (xT f.foot f.parts footer=none):=Kr (fun S hS=>by
     obtain ⟨_,_,_,_,h5,h6,h7⟩:=HSAME.out S hS
     exact hno S.mods [] h6 (by rw [List.append_nil];exact h7) h5.symm)
    have HB5:=hid (HB4.out.trans (hT.below (by omega) (by omega) HB4.out.size))
    clear hno hT
    go_wp2
    exact ⟨rfl,HB5.out,.inl ⟨rfl,HN.out⟩⟩
   have HB5:=hid (HB4.out.trans (hT.below (by omega) (by omega) HB4.out.size))
   have HC5:=hid (hT.owns HC4.out (ze Hp4.out) HQ4.out (by decide) (by decide))
   have HR5:=hid (hT.keeps HR4.out (by omega) (by omega))
   have HSh:=hid hSh
   have Hrd5:=hid hrd5
   have HM5:=hid (And.intro hmok (And.intro hbytes hpl))
   have hz5:=hT.size
   clear hT hSh hrd5 hmok hbytes hpl
   go_wp2_with fail
   refine (NX p (qg f) r w5 H100.out Hrd5.out).mono ?_
   rintro e w6 ⟨hb6,⟨hne,rfl⟩|⟨hnil,rfl⟩⟩
   ·have HN:Hid (xT f.foot f.parts footer=none):=Kr (fun S hS=>by
     obtain ⟨_,_,_,_,h5,h6,h7⟩:=HSAME.out S hS
     obtain ⟨m1,m2,_⟩:=HM5.out
     rw [m2] at h7
     have h6':ModsOk t1 (qk R1 t1.length G1 P1++[]) S.mods:=by rw [List.append_nil];exact h6
     obtain ⟨M2,_,h9,h10⟩:=Kx (rest:=r) (q:=[]) m1 h6' (by rw [List.append_nil,List.append_nil];exact h7)
     cases h9
     exact hne (by simpa [jn] using h10))
    have HB6:=hid (HB5.out.trans (hb6.mono HB5.out.size))
    clear hne hb6
    go_wp2
    exact ⟨rfl,HB6.out,.inl ⟨rfl,HN.out⟩⟩
   have HB6:=hid (HB5.out.trans (hb6.mono HB5.out.size))
   have HC6:=hid (jN HC5.out hb6)
   have HR6:=hid (jd hb6 HR5.out)
   have HSh6:=hid (HSh.out.later hb6)
   have hz6:=hb6.size
   have HSOK:Hid (SheetOk f.foot f.parts footer ⟨R1,⟨(G1:Int),(P1:Int),(f.foot:Int),false⟩,t1,xk (fun g c=>Qp g c++[Qm g c]) t1.length (jX R1 G1)⟩):=by
    obtain ⟨m1,m2,m3⟩:=HM5.out
    have hk:=HOK1.out
    refine ⟨hk.rows,hk.plan,rfl,rfl,hk.heads,hk.bare,m1,?_,?_⟩
    ·rw [m2,hnil,List.append_nil];rfl
    ·rw [HTX.out,m3];rfl
   clear hb6 hnil
   have HQ6:Hid (w6.heap[QQ]?=some (.cells #[.int .i64 (f.foot:Int),.bool f.told,strB f.footer,strB [sb],.int .i64 0,.int .i64 0,.int .i64 0,strB f.nonce,strB f.body,strB (qg f),.int .i64 (R1:Int),.int .i64 (G1:Int),.int .i64 (P1:Int),.int .i64 (f.foot:Int),.bool false,.slice ca t1.length cc,.slice pa pl1.length pc,.slice (some ⟨Kb,0,none⟩) t1.length t1.length] 82 (0,0))):=HSh6.out.sheet
   go_wp2_with (first|(refine wpList_load_row rfl 82 (.tmp 5) rfl QQ rfl 82 #[.int .i64 (f.foot:Int),.bool f.told,strB f.footer,strB [sb],.int .i64 0,.int .i64 0,.int .i64 0,strB f.nonce,strB f.body,strB (qg f),.int .i64 (R1:Int),.int .i64 (G1:Int),.int .i64 (P1:Int),.int .i64 (f.foot:Int),.bool false,.slice ca t1.length cc,.slice pa pl1.length pc,.slice (some ⟨Kb,0,none⟩) t1.length t1.length] (0,0) _ HQ6.out Tryz.underlying82 rfl (by kernel_rfl) ?_)|(refine wpList_store_row rfl 82 (.tmp 4) (.tmp 22) rfl (w.heap.size+1) #[.int .i64 (f.foot:Int),.bool f.told,strB f.footer,strB [sb],.int .i64 0,.int .i64 0,.int .i64 0,strB f.nonce,strB f.body,strB (qg f),.int .i64 (R1:Int),.int .i64 (G1:Int),.int .i64 (P1:Int),.int .i64 (f.foot:Int),.bool false,.slice ca t1.length cc,.slice pa pl1.length pc,.slice (some ⟨Kb,0,none⟩) t1.length t1.length] rfl rfl 82 #[.int .i64 0,.bool false,Value.string { data:=#[] },Value.string { data:=#[] },.int .i64 0,.int .i64 0,.int .i64 0,Value.string { data:=#[] },Value.string { data:=#[] },Value.string { data:=#[] },.int .i64 0,.int .i64 0,.int .i64 0,.int .i64 0,.bool false,.slice none 0 0,.slice none 0 0,.slice none 0 0] HR6.out (by kernel_rfl) rfl (by simp [Value.oneCell']) ?_))
   have HoF:=hid (setRow_heap w6 (w.heap.size+1) _ #[.int .i64 (f.foot:Int),.bool f.told,strB f.footer,strB [sb],.int .i64 0,.int .i64 0,.int .i64 0,strB f.nonce,strB f.body,strB (qg f),.int .i64 (R1:Int),.int .i64 (G1:Int),.int .i64 (P1:Int),.int .i64 (f.foot:Int),.bool false,.slice ca t1.length cc,.slice pa pl1.length pc,.slice (some ⟨Kb,0,none⟩) t1.length t1.length] 82 (0,0) HR6.out)
   have HgF:=hid (jx w6 (w.heap.size+1) #[.int .i64 (f.foot:Int),.bool f.told,strB f.footer,strB [sb],.int .i64 0,.int .i64 0,.int .i64 0,strB f.nonce,strB f.body,strB (qg f),.int .i64 (R1:Int),.int .i64 (G1:Int),.int .i64 (P1:Int),.int .i64 (f.foot:Int),.bool false,.slice ca t1.length cc,.slice pa pl1.length pc,.slice (some ⟨Kb,0,none⟩) t1.length t1.length])
   have HCF:=hid (qq HC6.out HgF.out HR6.out (by decide))
   have HKF:=hid (jk HgF.out HSh6.out.kb (by have:=HSh6.out.new;omega))
   have HVF:=hid (fun i (hi:i < t1.length)=>(HSh6.out.cols i hi).keep (fun n xs hu=>qq hu HgF.out HR6.out (by decide)) (fun u n xs hu=>qq hu HgF.out HR6.out (by decide)))
   have HBF:=hid (HB6.out.trans (jq HgF.out (by omega) HB6.out.size))
   generalize w6.setRow _ _=WF at *
   refine bodyPost_ret (v:=.agg #[.int .i64 (f.foot:Int),.bool f.told,strB f.footer,strB [sb],.int .i64 0,.int .i64 0,.int .i64 0,strB f.nonce,strB f.body,strB (qg f),.int .i64 (R1:Int),.int .i64 (G1:Int),.int .i64 (P1:Int),.int .i64 (f.foot:Int),.bool false,.slice ca t1.length cc,.slice pa pl1.length pc,.slice (some ⟨Kb,0,none⟩) t1.length t1.length]) (results_cell_row (P:=Tryz.prog) (p:=4) (ty:=82) rfl _ _ (w.heap.size+1) 82 #[.int .i64 (f.foot:Int),.bool f.told,strB f.footer,strB [sb],.int .i64 0,.int .i64 0,.int .i64 0,strB f.nonce,strB f.body,strB (qg f),.int .i64 (R1:Int),.int .i64 (G1:Int),.int .i64 (P1:Int),.int .i64 (f.foot:Int),.bool false,.slice ca t1.length cc,.slice pa pl1.length pc,.slice (some ⟨Kb,0,none⟩) t1.length t1.length] (0,0) _ rfl HoF.out Tryz.underlying82 rfl (by kernel_rfl)) rfl ⟨HBF.out,.inr ⟨⟨R1,⟨(G1:Int),(P1:Int),(f.foot:Int),false⟩,t1,xk (fun g c=>Qp g c++[Qm g c]) t1.length (jX R1 G1)⟩,_,.slice ca t1.length cc,.slice pa pl1.length pc,Kb,V,Qp,Qm,Pv,Vh HSOK.out,HSOK.out,rfl,⟨?_,HCF.out,⟨_,_,_,rfl⟩,HSM.out,?_,HKF.out,fun i hi=>?_,rfl⟩⟩⟩
   ·rw [Hsb.out]
   ·have:=HSh6.out.new
    have:=HB4.out.size
    omega
   ·have:=HVF.out i hi
    rw [if_neg (Nat.not_lt_zero i)] at this
    exact this.lower HB4.out.size
end
section
abbrev sheet0:Array Value:=#[.int .i64 0,.bool false,Value.string { data:=#[] },Value.string { data:=#[] },.int .i64 0,.int .i64 0,.int .i64 0,Value.string { data:=#[] },Value.string { data:=#[] },Value.string { data:=#[] },.int .i64 0,.int .i64 0,.int .i64 0,.int .i64 0,.bool false,.slice none 0 0,.slice none 0 0,.slice none 0 0]
theorem GB {P:Program} {fn:Func} {p q:Tmp} {ty tz:TypeId} (h:fn.results=#[.cell p ty,.cell q tz]) (tmps:Array Value) (w:World) (g k:Nat) (cs:Array Value) (x:Value)
  (hp:tmps.getD p undef=.pointer (some ⟨g,0,none⟩)) (hq:tmps.getD q undef=.pointer (some ⟨k,0,none⟩)) (hl:(loadVar ty ⟨g,0,none⟩).run P w=.ok (.agg cs) w) (hl2:(loadVar tz ⟨k,0,none⟩).run P w=.ok x w) :
  (results fn tmps).run P w=.ok (.tuple #[.agg cs,x]) w:=by
 have hp':tmps[p]?.getD undef=.pointer (some ⟨g,0,none⟩):=by simpa using hp
 have hq':tmps[q]?.getD undef=.pointer (some ⟨k,0,none⟩):=by simpa using hq
 simp [results,h,hp',hq',asAddr,hl,hl2]
theorem CI (f:FormF) (footer:List UInt8) (B1 B2:Nat) (w:World) (hs:footer.length≤maxLen) (hl:(qg f).length≤65000) (h1:w.heap[B1]?=some (.cells (formC f) 77 (0,0))) (h2:w.cell? ⟨B2,0,none⟩=some (strB footer)) :
  Calls Tryz.prog 107 #[.pointer (some ⟨B1,0,none⟩),.pointer (some ⟨B2,0,none⟩)] w (Sk f footer w):=by
 have Hs:=hid hs
 have Hl:=hid hl
 have h2a:=je (.cells sheet0 82) h2
 have h1a:=jo (.cells sheet0 82) h1
 clear hs hl
 obtain ⟨hb0,hl0,_,ho0⟩:=jJ w sheet0 82
 go_enter Tryz.func107,Tryz.ntmps107
 go_wp2_with (refine wpList_load_row rfl 77 (.tmp 0) rfl B1 rfl 77 (formC f) (0,0) _ h1a Tryz.underlying77 rfl (by kernel_rfl) ?_)
 clear h1a h2a h1 h2
 refine (Pr f footer (w.alloc (.cells sheet0 82)) Hs.out Hl.out).mono ?_
 generalize w.alloc _=W0 at *
 have HB0:=hid hb0
 have Ho0:=hid ho0
 clear hb0 ho0
 rintro e w1 ⟨hb1,⟨rfl,hn⟩|⟨S,v,cv,pv,Kb,V,Qp,Qm,Pv,hS,hok,rfl,hin⟩⟩
 ·have HN:=hid hn
  have HB1:=hid (HB0.out.trans (hb1.mono HB0.out.size))
  clear hb1 hn
  go_wp2
  exact ⟨rfl,HB1.out,.inl ⟨rfl,HN.out⟩⟩
 ·have HS:=hid (And.intro hS hok)
  have HB1:=hid (HB0.out.trans (hb1.mono HB0.out.size))
  have Ho1:=hid (jd hb1 Ho0.out)
  obtain ⟨hv,hsz,hone⟩:=hin.one
  subst hv
  have HIN:=hid hin
  clear hb1 hS hok hin
  generalize hCC:qO S f cv pv Kb=CC at *
  have HCC:=hid hCC
  clear hCC
  have hinf:(Tryz.prog.info? 82).map (·.size)=some CC.size:=by rw [hsz];kernel_rfl
  have hsz0:sheet0.size=CC.size:=by rw [hsz];rfl
  have HSZ:=hid hsz
  clear hsz
  go_wp2_with (refine wpList_store_row rfl 82 (.tmp 2) (.tmp 5) rfl w.heap.size CC rfl rfl 82 sheet0 Ho1.out hinf hsz0 hone ?_)
  have HoF:=hid (setRow_heap w1 w.heap.size _ CC 82 (0,0) Ho1.out)
  have HBF:=hid (HB1.out.trans (jq (jx w1 w.heap.size CC) (Nat.le_refl _) HB1.out.size))
  have HIF:=hid ((HIN.out.grown (jx w1 w.heap.size CC) Ho1.out (by decide) (by decide) (by decide) (by decide)).lower HB0.out.size)
  generalize w1.setRow _ _=WF at *
  exact bodyPost_ret (v:=.agg CC) (results_cell_row (P:=Tryz.prog) (p:=2) (ty:=82) rfl _ _ w.heap.size 82 CC (0,0) _ rfl HoF.out Tryz.underlying82 rfl hinf) rfl ⟨HBF.out,.inr ⟨S,.agg CC,cv,pv,Kb,V,Qp,Qm,Pv,HS.out.1,HS.out.2,rfl,HIF.out⟩⟩
theorem Gd (p:Addr) (b:Bool) (u:TypeId) (pv:Value) (older:List PanicEntry) (w:World) (hc:w.cell? p=some (.bool b)) (hz:w.frozen? p=false) :
  CallsD Tryz.prog 125 #[.pointer (some p)] (.panicking ({ v:=.iface u pv,recovered:=false } :: older)) w fun e u' w' =>
   e=.returned (.tuple #[])∧u'=.panicking ({ v:=.iface u pv,recovered:=true } :: older)∧w'=w.setCell p (.bool false):=by
 refine callsD_of_wpS Tryz.func125 rfl fun c₀ cs hu=>?_
 apply wpS_region
 simp [wpOpsS,go_sem,recoverD,hu,Tryz.ntmps125,Exit.thenS,hc,hz,bodyPostS,results,Tryz.results125]
theorem IN (p:Addr) (b:Bool) (w:World) (hc:w.cell? p=some (.bool b)) (hz:w.frozen? p=false) :
  CallsD Tryz.prog 125 #[.pointer (some p)] .returning w fun e u' w'=>e=.returned (.tuple #[])∧u'=.returning∧w'=w.setCell p (.bool true):=by
 refine callsD_of_wpS Tryz.func125 rfl fun c₀ cs hu=>?_
 apply wpS_region
 simp [wpOpsS,go_sem,recoverD,hu,Tryz.ntmps125,Exit.thenS,hc,hz,bodyPostS,results,Tryz.results125]
 cases c₀
 simp_all
def VK (f:FormF) (footer:List UInt8) (w:World) (e:Ending) (w':World):Prop :=
 Below w.heap.size w w'∧((xT f.foot f.parts footer=none∧e=.returned (.tuple #[.agg sheet0,.bool false])) ∨
  ∃ S cv pv Kb V Qp Qm Pv,xT f.foot f.parts footer=some S∧SheetOk f.foot f.parts footer S∧e=.returned (.tuple #[.agg (qO S f cv pv Kb),.bool true])∧SheetIn S f w.heap.size w' (.agg (qO S f cv pv Kb)) cv pv Kb V Qp Qm Pv)
theorem PB (f:FormF) (footer:List UInt8) (B1 B2:Nat) (w:World) (hs:footer.length≤maxLen) (hl:(qg f).length≤65000) (h1:w.heap[B1]?=some (.cells (formC f) 77 (0,0))) (h2:w.cell? ⟨B2,0,none⟩=some (strB footer)) :
  Calls Tryz.prog 106 #[.func (.func 107) #[] #[.pointer (some ⟨B1,0,none⟩),.pointer (some ⟨B2,0,none⟩)]] w (VK f footer w):=by
 have hmf:∀ (fn:Fn) (first cap:Array Value) (w:World),(Instr.makeFunc fn first cap).run Tryz.prog w=.ok (.func fn first cap) w:=fun _ _ _ _=>rfl
 have Hs:=hid hs
 have Hl:=hid hl
 have H1a:=hid (jo (.cells #[.bool false] 4) (jo (.cells sheet0 82) h1))
 have H2a:=hid (je (.cells #[.bool false] 4) (je (.cells sheet0 82) h2))
 obtain ⟨hb0,hl0,ho0,hk0⟩:=JQ w sheet0 82 #[.bool false] 4
 clear hs hl h1 h2
 go_enter_defers Tryz.func106,Tryz.ntmps106
 go_wp2_with fail
 refine (CI f footer B1 B2 ((w.alloc (.cells sheet0 82)).alloc (.cells #[.bool false] 4)) Hs.out Hl.out H1a.out H2a.out).mono ?_
 clear H1a H2a
 generalize (w.alloc _).alloc _=W0 at *
 have HB0:=hid hb0
 have Ho0:=hid ho0
 have Hk0:=hid hk0
 clear hb0 ho0 hk0
 rintro e w2 ⟨hb2,ho⟩
 have HB2:=hid (HB0.out.trans (hb2.mono HB0.out.size))
 have Ho2:=hid (jd hb2 Ho0.out)
 have Hk2:=hid (jd hb2 Hk0.out)
 have hc2:w2.cell? ⟨w.heap.size+1,0,none⟩=some (.bool false):=by rw [jb Hk2.out];rfl
 have hz2:w2.frozen? ⟨w.heap.size+1,0,none⟩=false:=frozen_of_row w2 _ _ _ _ Hk2.out
 rcases ho with ⟨rfl,hn⟩|⟨S,v,cv,pv,Kb,V,Qp,Qm,Pv,hS,hok,rfl,hin⟩
 ·have Hn:=hid hn
  clear hn hb2
  go_wp2
  refine leaves_cons (f:=125) (args:=#[.pointer (some ⟨w.heap.size+1,0,none⟩)]) (by simp) (by simp [go_sem]) ?_
  refine (Gd ⟨w.heap.size+1,0,none⟩ false 9 _ [] _ hc2 hz2).mono ?_
  rintro e u' w'' ⟨rfl,rfl,rfl⟩
  have hW:=World.cell?_setCell_same w2 ⟨w.heap.size+1,0,none⟩ (.bool false) hc2
  have HBW:=hid (HB2.out.setCell (p:=⟨w.heap.size+1,0,none⟩) (by simp) (.bool false))
  have HoW:=hid (jk (qr w2 (w.heap.size+1) 0 (.bool false)) Ho2.out (by omega))
  generalize w2.setCell _ _=W at *
  have hload:=run_loadVar_row (P:=Tryz.prog) W w.heap.size 82 82 sheet0 (0,0) _ HoW.out Tryz.underlying82 rfl (by kernel_rfl)
  have hload2:(loadVar 4 ⟨w.heap.size+1,0,none⟩).run Tryz.prog W=.ok (.bool false) W:=by simp [go_sem,hW]
  have HFIN:Hid (VK f footer w (.returned (.tuple #[.agg sheet0,.bool false])) W):=⟨HBW.out,.inl ⟨Hn.out,rfl⟩⟩
  exact ⟨_,GB (p:=2) (q:=3) rfl _ _ _ _ _ _ rfl rfl hload hload2,HFIN.out⟩
 ·obtain ⟨hv,hsz,hone⟩:=hin.one
  subst hv
  have HFS:=hid (And.intro hS hok)
  have HIN:=hid hin
  clear hS hok hin
  generalize hCC:qO S f cv pv Kb=CC at *
  have HCC:=hid hCC
  clear hCC
  have hinf:(Tryz.prog.info? 82).map (·.size)=some CC.size:=by rw [hsz];kernel_rfl
  have hsz0:sheet0.size=CC.size:=by rw [hsz];rfl
  clear hsz
  have hg3:=jx w2 w.heap.size CC
  have Hk3:=hid (jk hg3 Hk2.out (by omega))
  have Ho3:=hid (setRow_heap w2 w.heap.size _ CC 82 (0,0) Ho2.out)
  have HB3:=hid (HB2.out.trans (jq hg3 (Nat.le_refl _) HB2.out.size))
  have HI3:=hid ((HIN.out.grown hg3 Ho2.out (by decide) (by decide) (by decide) (by decide)).lower HB0.out.size)
  have hc3:(w2.setRow w.heap.size CC).cell? ⟨w.heap.size+1,0,none⟩=some (.bool false):=by rw [jb Hk3.out];rfl
  have hz3:(w2.setRow w.heap.size CC).frozen? ⟨w.heap.size+1,0,none⟩=false:=frozen_of_row _ _ _ _ _ Hk3.out
  clear hb2 hg3 hc2 hz2
  go_wp2_with (refine wpList_store_row rfl 82 (.tmp 2) (.tmp 6) rfl w.heap.size CC rfl rfl 82 sheet0 Ho2.out hinf hsz0 hone ?_)
  generalize w2.setRow _ _=w3 at *
  refine leaves_cons (f:=125) (args:=#[.pointer (some ⟨w.heap.size+1,0,none⟩)]) (by simp) (by simp [go_sem]) ?_
  refine (IN ⟨w.heap.size+1,0,none⟩ true _ ?_ ?_).mono ?_
  ·exact World.cell?_setCell_same w3 ⟨w.heap.size+1,0,none⟩ (.bool true) hc3
  ·simp [hz3]
  rintro e u' w'' ⟨rfl,rfl,rfl⟩
  have hW1:=World.cell?_setCell_same w3 ⟨w.heap.size+1,0,none⟩ (.bool true) hc3
  have hW:=World.cell?_setCell_same _ ⟨w.heap.size+1,0,none⟩ (.bool true) hW1
  have HBW:=hid ((HB3.out.setCell (p:=⟨w.heap.size+1,0,none⟩) (by simp) (.bool true)).setCell (p:=⟨w.heap.size+1,0,none⟩) (by simp) (.bool true))
  have ga:=qr w3 (w.heap.size+1) 0 (.bool true)
  have gb:=qr (w3.setCell ⟨w.heap.size+1,0,none⟩ (.bool true)) (w.heap.size+1) 0 (.bool true)
  have hka:(w3.setCell ⟨w.heap.size+1,0,none⟩ (.bool true)).heap[w.heap.size+1]?=some (.cells #[.bool true] 4 (0,0)):=by
   rw [heap_setCell_same w3 (w.heap.size+1) 0 _ 4 (.bool true) Hk3.out];rfl
  have HoW:=hid (jk gb (jk ga Ho3.out (by omega)) (by omega))
  have HIW:=hid ((HI3.out.grown ga Hk3.out (by decide) (by decide) (by decide) (by decide)).grown gb hka (by decide) (by decide) (by decide) (by decide))
  clear hW1 hc3 hz3 ga gb hka
  generalize (w3.setCell _ _).setCell _ _=W at *
  have hload:=run_loadVar_row (P:=Tryz.prog) W w.heap.size 82 82 CC (0,0) _ HoW.out Tryz.underlying82 rfl hinf
  have hload2:(loadVar 4 ⟨w.heap.size+1,0,none⟩).run Tryz.prog W=.ok (.bool true) W:=by simp [go_sem,hW]
  rw [← HCC.out] at hload
  have HFIN:Hid (VK f footer w (.returned (.tuple #[.agg (qO S f cv pv Kb),.bool true])) W):=⟨HBW.out,.inr ⟨S,cv,pv,Kb,V,Qp,Qm,Pv,HFS.out.1,HFS.out.2,rfl,by rw [HCC.out];exact HIW.out⟩⟩
  exact ⟨_,GB (p:=2) (q:=3) rfl _ _ _ _ _ _ rfl rfl hload hload2,HFIN.out⟩
end
section
theorem SX (w:World) (C1:Array Value) (t1:TypeId) (C2:Array Value) (t2:TypeId) (C3:Array Value) (t3:TypeId):Below w.heap.size w (((w.alloc (.cells C1 t1)).alloc (.cells C2 t2)).alloc (.cells C3 t3))∧w.heap.size+1+1 < (((w.alloc (.cells C1 t1)).alloc (.cells C2 t2)).alloc (.cells C3 t3)).heap.size ∧
  (((w.alloc (.cells C1 t1)).alloc (.cells C2 t2)).alloc (.cells C3 t3)).heap[w.heap.size]?=some (.cells C1 t1 (0,0))∧(((w.alloc (.cells C1 t1)).alloc (.cells C2 t2)).alloc (.cells C3 t3)).heap[w.heap.size+1]?=some (.cells C2 t2 (0,0))∧(((w.alloc (.cells C1 t1)).alloc (.cells C2 t2)).alloc (.cells C3 t3)).heap[w.heap.size+1+1]?=some (.cells C3 t3 (0,0)):=by
 obtain ⟨hb,hl,h1,h2⟩:=JQ w C1 t1 C2 t2
 have e:((w.alloc (.cells C1 t1)).alloc (.cells C2 t2)).heap.size=w.heap.size+2:=by simp
 refine ⟨hb.alloc hb.size _,by simp,jo _ h1,jo _ h2,?_⟩
 have:=heap_alloc_new ((w.alloc (.cells C1 t1)).alloc (.cells C2 t2)) (.cells C3 t3)
 rw [e] at this
 exact this
theorem qV {P:Program} {fn:Func} {p q:Tmp} {ty:TypeId} (h:fn.results=#[.cell p ty,.tmp q]) (tmps:Array Value) (w:World) (g:Nat) (cs:Array Value) (x:Value)
  (hp:tmps.getD p undef=.pointer (some ⟨g,0,none⟩)) (hq:tmps.getD q undef=x) (hl:(loadVar ty ⟨g,0,none⟩).run P w=.ok (.agg cs) w) :
  (results fn tmps).run P w=.ok (.tuple #[.agg cs,x]) w:=by
 have hp':tmps[p]?.getD undef=.pointer (some ⟨g,0,none⟩):=by simpa using hp
 have hq':tmps[q]?.getD undef=x:=by simpa using hq
 simp [results,h,hp',hq',asAddr,hl]
def BD (f:FormF) (footer:List UInt8) (w:World) (e:Ending) (w':World):Prop :=
 Below w.heap.size w w'∧((xT f.foot f.parts footer=none∧e=.returned (.tuple #[.agg sheet0,.int .i64 9])) ∨
  ∃ S cv pv Kb V Qp Qm Pv,xT f.foot f.parts footer=some S∧SheetOk f.foot f.parts footer S∧e=.returned (.tuple #[.agg (qO S f cv pv Kb),.int .i64 0])∧SheetIn S f w.heap.size w' (.agg (qO S f cv pv Kb)) cv pv Kb V Qp Qm Pv)
theorem Rz (f:FormF) (footer:List UInt8) (w:World) (hs:footer.length≤maxLen) (hl:(qg f).length≤65000) :
  Calls Tryz.prog 74 #[formV f,strB footer] w (BD f footer w):=by
 have hmf:∀ (fn:Fn) (first cap:Array Value) (w:World),(Instr.makeFunc fn first cap).run Tryz.prog w=.ok (.func fn first cap) w:=fun _ _ _ _=>rfl
 have Hs:=hid hs
 have Hl:=hid hl
 clear hs hl
 show Calls _ _ #[.agg (formC f),strB footer] _ _
 generalize hFC:formC f=FC
 have HFC:=hid hFC
 clear hFC
 obtain ⟨hb0,hl0,h1,h2,h3⟩:=SX w FC 77 #[strB footer] 9 sheet0 82
 go_enter Tryz.func74,Tryz.ntmps74
 go_wp2_with fail
 generalize ((w.alloc _).alloc _).alloc _=W0 at *
 have HB0:=hid hb0
 have H1:Hid (W0.heap[w.heap.size]?=some (.cells (formC f) 77 (0,0))):=by show _=_;rw [HFC.out];exact h1
 have H2:Hid (W0.cell? ⟨w.heap.size+1,0,none⟩=some (strB footer)):=by show _=_;rw [jb h2];rfl
 have H3:=hid h3
 clear hb0 h1 h2 h3
 refine (PB f footer w.heap.size (w.heap.size+1) W0 Hs.out Hl.out H1.out H2.out).mono ?_
 rintro e w1 ⟨hb1,⟨hn,rfl⟩|⟨S,cv,pv,Kb,V,Qp,Qm,Pv,hS,hok,rfl,hin⟩⟩
 ·have HN:=hid hn
  have HB1:=hid (HB0.out.trans (hb1.mono HB0.out.size))
  have H31:=hid (jd hb1 H3.out)
  clear hb1 hn
  obtain ⟨hbA,hlA,_,hoA⟩:=jJ w1 sheet0 82
  have gA:=jx (w1.alloc (.cells sheet0 82)) w1.heap.size sheet0
  have h3A:=jk gA (jd hbA H31.out) (by have:=HB1.out.size;have:=(Array.getElem?_eq_some_iff.1 H31.out).1;omega)
  have HBA:=hid ((HB1.out.trans (hbA.mono HB1.out.size)).trans (jq gA HB1.out.size (Nat.le_trans HB1.out.size hbA.size)))
  go_wp2_with (first
   | (refine wpList_store_row rfl 82 (.tmp 6) (.tmp 11) rfl w1.heap.size sheet0 rfl rfl 82 sheet0 hoA (by kernel_rfl) rfl (by simp [Value.oneCell']) ?_)
   | (refine wpList_store_row rfl 82 (.tmp 4) (.tmp 15) rfl (w.heap.size+1+1) sheet0 rfl rfl 82 sheet0 h3A (by kernel_rfl) rfl (by simp [Value.oneCell']) ?_))
  show bodyPost _ _ _ _ _ (((w1.alloc (.cells sheet0 82)).setRow w1.heap.size sheet0).setRow (w.heap.size+1+1) sheet0)
  have H3A:=hid h3A
  clear hoA h3A gA hbA
  generalize (w1.alloc _).setRow _ _=w2 at *
  have HoF:=hid (setRow_heap w2 (w.heap.size+1+1) _ sheet0 82 (0,0) H3A.out)
  have HBF:=hid (HBA.out.trans (jq (jx w2 (w.heap.size+1+1) sheet0) (by omega) HBA.out.size))
  generalize w2.setRow _ _=WF at *
  exact bodyPost_ret (v:=.tuple #[.agg sheet0,.int .i64 9]) (qV (p:=4) (q:=5) rfl _ _ _ _ _ rfl rfl (run_loadVar_row (P:=Tryz.prog) WF (w.heap.size+1+1) 82 82 sheet0 (0,0) _ HoF.out Tryz.underlying82 rfl (by kernel_rfl))) rfl ⟨HBF.out,.inl ⟨HN.out,rfl⟩⟩
 ·have HFS:=hid (And.intro hS hok)
  have HB1:=hid (HB0.out.trans (hb1.mono HB0.out.size))
  have H31:=hid (jd hb1 H3.out)
  obtain ⟨_,hsz,hone⟩:=hin.one
  have HIN:=hid (hin.lower (b:=w.heap.size) HB0.out.size)
  clear hb1 hS hok hin
  generalize hCC:qO S f cv pv Kb=CC at *
  have HCC:=hid hCC
  clear hCC
  have hinf:(Tryz.prog.info? 82).map (·.size)=some CC.size:=by rw [hsz];kernel_rfl
  have hsz0:sheet0.size=CC.size:=by rw [hsz];rfl
  clear hsz
  obtain ⟨hbA,hlA,_,hoA⟩:=jJ w1 sheet0 82
  have gA:=jx (w1.alloc (.cells sheet0 82)) w1.heap.size CC
  have oA:=setRow_heap (w1.alloc (.cells sheet0 82)) w1.heap.size _ CC 82 (0,0) hoA
  have h3A:=jk gA (jd hbA H31.out) (by have:=HB1.out.size;have:=(Array.getElem?_eq_some_iff.1 H31.out).1;omega)
  have HBA:=hid ((HB1.out.trans (hbA.mono HB1.out.size)).trans (jq gA HB1.out.size (Nat.le_trans HB1.out.size hbA.size)))
  have HIA:=hid ((HIN.out.later hbA).grown gA hoA (by decide) (by decide) (by decide) (by decide))
  go_wp2_with (first
   | (refine wpList_store_row rfl 82 (.tmp 6) (.tmp 11) rfl w1.heap.size CC rfl rfl 82 sheet0 hoA hinf hsz0 hone ?_)
   | (refine wpList_load_row rfl 82 (.tmp 6) rfl w1.heap.size rfl 82 CC (0,0) _ oA Tryz.underlying82 rfl hinf ?_)
   | (refine wpList_store_row rfl 82 (.tmp 4) (.tmp 16) rfl (w.heap.size+1+1) CC rfl rfl 82 sheet0 h3A hinf hsz0 hone ?_))
  show bodyPost _ _ _ _ _ (((w1.alloc (.cells sheet0 82)).setRow w1.heap.size CC).setRow (w.heap.size+1+1) CC)
  have H3A:=hid h3A
  clear hoA oA h3A gA hbA
  generalize (w1.alloc _).setRow _ _=w2 at *
  have HoF:=hid (setRow_heap w2 (w.heap.size+1+1) _ CC 82 (0,0) H3A.out)
  have HBF:=hid (HBA.out.trans (jq (jx w2 (w.heap.size+1+1) CC) (by omega) HBA.out.size))
  have HIF:=hid (HIA.out.grown (jx w2 (w.heap.size+1+1) CC) H3A.out (by decide) (by decide) (by decide) (by decide))
  generalize w2.setRow _ _=WF at *
  exact bodyPost_ret (v:=.tuple #[.agg CC,.int .i64 0]) (qV (p:=4) (q:=5) rfl _ _ _ _ _ rfl rfl (run_loadVar_row (P:=Tryz.prog) WF (w.heap.size+1+1) 82 82 CC (0,0) _ HoF.out Tryz.underlying82 rfl hinf)) rfl ⟨HBF.out,.inr ⟨S,cv,pv,Kb,V,Qp,Qm,Pv,HFS.out.1,HFS.out.2,by rw [HCC.out],by rw [HCC.out];exact HIF.out⟩⟩
end
end Go.Proofs.YthhpbhpfagoapabGreat
