import Derived.Test.YthhpbhpfagoapaaGreatTk
import Derived.Test.YthhpbhpfagoapaaGreatXRChunks
import Derived.Test.YthhpbhpfagoapaaGreatJAP
import Derived.Laws.Tables
import Derived.Laws.Rows
import Derived.Test.YthhpbhpfagoapaaGreatJBA
namespace Go.Proofs.YthhpbhpfagoapaaGreat
set_option linter.unusedVariables false
set_option linter.unusedSimpArgs false
set_option maxRecDepth 100000
set_option maxHeartbeats 16000000
open Go.RowKit
section
theorem Zg {t:List ColB}:∀ (L:List SpotB) (M:List ModF) (n:Nat) (b:Bool),∀ x ∈ jp t n b L M,x≤n+(jl t L M).length:=by
 intro L
 induction L with
 | nil=>intro M n b x hx;simp [jp] at hx
 | cons s L ih =>
  intro M n b x hx
  cases M with
  | nil=>simp [jp] at hx
  | cons m M =>
   simp only [jp,List.mem_append] at hx
   simp only [jl,List.length_append]
   rcases hx with hx|hx
   ·split at hx
    ·simp at hx;omega
    ·simp at hx
   ·have:=ih M _ _ x hx
    omega
theorem Dv {foot:Nat} {parts footer:List UInt8} {S:SheetF} (hl:4+parts.length≤65000) (h:SheetOk foot parts footer S):FootOk foot S.rows S.plan S.cols (jp S.cols 4 true (qy S) S.mods) :=
 ⟨h.rows,h.plan,h.told,h.foot,h.heads,h.bare,Ql h,fun x hx=>by
  have:=Zg _ _ _ _ x hx
  rw [← h.parts] at this
  omega⟩
structure SheetIn (S:SheetF) (f:FormF) (base:Nat) (w:World) (v:Value) (cv pv:Value) (Kb:Nat) (V:Nat→Value) (Qp:Nat→Nat→List ModF) (Qm:Nat→Nat→ModF) (Pv:Nat→Nat→Value):Prop where
 val:v=.agg #[.int .i64 (f.foot:Int),.bool f.told,strB f.footer,strB [if f.told=true then 83 else 70],.int .i64 0,.int .i64 0,.int .i64 0,strB f.nonce,strB f.body,strB (qe f),.int .i64 (S.rows:Int),.int .i64 S.plan.group,.int .i64 S.plan.page,.int .i64 S.plan.foot,.bool false,cv,pv,.slice (some ⟨Kb,0,none⟩) S.cols.length S.cols.length]
 cols:w.ownsRow base 61 4 cv S.cols.length (zK S.cols)
 pvs:∃ a m k,pv=.slice a m k
 small:∀ c ∈ S.cols,SmallC c
 new:base≤Kb
 kb:w.heap[Kb]?=some (.cells ((List.range S.cols.length).map V).toArray 258 (0,0))
 chunks:∀ i,i < S.cols.length→ColIn S.cols S.rows S.plan.group.toNat S.plan.page.toNat base w i (jW S.rows S.plan.group.toNat) (V i) Qp Qm Pv
 mods:S.mods=qV (fun g c=>Qp g c++[Qm g c]) S.cols.length (jW S.rows S.plan.group.toNat)
theorem ColIn.lower {t:List ColB} {R G P base b:Nat} {w:World} {c k:Nat} {v:Value} {Qp:Nat→Nat→List ModF} {Qm:Nat→Nat→ModF} {Pv:Nat→Nat→Value} (h:ColIn t R G P base w c k v Qp Qm Pv) (hb:b≤base):ColIn t R G P b w c k v Qp Qm Pv :=
 ⟨jy h.row hb,fun g hg=>jy (h.pages g hg) hb,h.ok⟩
theorem SheetIn.grown {S:SheetF} {f:FormF} {base q:Nat} {w w':World} {v cv pv:Value} {Kb:Nat} {V:Nat→Value} {Qp:Nat→Nat→List ModF} {Qm:Nat→Nat→ModF} {Pv:Nat→Nat→Value} {C:Array Value} {T:TypeId} (h:SheetIn S f base w v cv pv Kb V Qp Qm Pv) (hg:w.grownBy w' (some q)) (hq:w.heap[q]?=some (.cells C T (0,0))) (h1:T≠61) (h2:T≠258) (h3:T≠261) (h4:T≠113):SheetIn S f base w' v cv pv Kb V Qp Qm Pv:=by
 refine ⟨h.val,qk h.cols hg hq h1,h.pvs,h.small,h.new,jf hg h.kb ?_,fun i hi=>(h.chunks i hi).keep (fun n xs hu=>qk hu hg hq h3) (fun u n xs hu=>qk hu hg hq h4),h.mods⟩
 rintro rfl
 have:=h.kb
 rw [hq] at this
 simp only [Option.some.injEq,Obj.cells.injEq] at this
 exact h2 this.2.1
theorem SheetIn.later {S:SheetF} {f:FormF} {base:Nat} {w w':World} {v cv pv:Value} {Kb:Nat} {V:Nat→Value} {Qp:Nat→Nat→List ModF} {Qm:Nat→Nat→ModF} {Pv:Nat→Nat→Value} (h:SheetIn S f base w v cv pv Kb V Qp Qm Pv) (hb:Below w.heap.size w w'):SheetIn S f base w' v cv pv Kb V Qp Qm Pv :=
 ⟨h.val,jw h.cols hb,h.pvs,h.small,h.new,jb hb h.kb,fun i hi=>(h.chunks i hi).keep (fun n xs hu=>jw hu hb) (fun u n xs hu=>jw hu hb),h.mods⟩
theorem SheetIn.lower {S:SheetF} {f:FormF} {base b:Nat} {w:World} {v cv pv:Value} {Kb:Nat} {V:Nat→Value} {Qp:Nat→Nat→List ModF} {Qm:Nat→Nat→ModF} {Pv:Nat→Nat→Value} (h:SheetIn S f base w v cv pv Kb V Qp Qm Pv) (hb:b≤base):SheetIn S f b w v cv pv Kb V Qp Qm Pv :=
 ⟨h.val,jy h.cols hb,h.pvs,h.small,Nat.le_trans hb h.new,h.kb,fun i hi=>(h.chunks i hi).lower hb,h.mods⟩
def zt (S:SheetF) (f:FormF) (cv pv:Value) (Kb:Nat):Array Value:=#[.int .i64 (f.foot:Int),.bool f.told,strB f.footer,strB [if f.told=true then 83 else 70],.int .i64 0,.int .i64 0,.int .i64 0,strB f.nonce,strB f.body,strB (qe f),.int .i64 (S.rows:Int),.int .i64 S.plan.group,.int .i64 S.plan.page,.int .i64 S.plan.foot,.bool false,cv,pv,.slice (some ⟨Kb,0,none⟩) S.cols.length S.cols.length]
theorem SheetIn.one {S:SheetF} {f:FormF} {base:Nat} {w:World} {v cv pv:Value} {Kb:Nat} {V:Nat→Value} {Qp:Nat→Nat→List ModF} {Qm:Nat→Nat→ModF} {Pv:Nat→Nat→Value} (h:SheetIn S f base w v cv pv Kb V Qp Qm Pv):v=.agg (zt S f cv pv Kb)∧(zt S f cv pv Kb).size=18∧(zt S f cv pv Kb).all (·.oneCell')=true:=by
 refine ⟨h.val,rfl,?_⟩
 obtain ⟨a,m,k,rfl⟩:=h.pvs
 obtain ⟨ca,cc,rfl⟩:=jr h.cols
 simp [zt,Value.oneCell']
def Pq (f:FormF) (footer:List UInt8) (w:World) (e:Ending) (w':World):Prop :=
 Below w.heap.size w w'∧((e=gaveUp∧xp f.foot f.parts footer=none) ∨
  ∃ S v cv pv Kb V Qp Qm Pv,xp f.foot f.parts footer=some S∧SheetOk f.foot f.parts footer S∧e=.returned v∧SheetIn S f w.heap.size w' v cv pv Kb V Qp Qm Pv)
theorem Ni {text:List UInt8} {foot:Nat} {w:World} {e:Ending} {w':World} (h:YU text foot w e w') (hn:∀ R p t pl,FootOk foot R p t pl→text≠qH R p t pl):e=gaveUp∧Below w.heap.size w w':=by
 obtain ⟨hb,⟨he,_⟩|⟨R,p,t,pl,cv,pv,hok,ht,_⟩⟩:=h
 ·exact ⟨he,hb⟩
 ·exact absurd ht (hn R p t pl hok)
theorem VW {text:List UInt8} {foot:Nat} {w:World} {e:Ending} {w':World} {R:Nat} {p:PlanB} {t:List ColB} {pl:List Nat} (h:YU text foot w e w') (h1:FootOk foot R p t pl) (h2:text=qH R p t pl) :
  ∃ R p t pl cv pv,Below w.heap.size w w'∧FootOk foot R p t pl∧text=qH R p t pl∧(∀ c ∈ t,SmallC c)∧e=.returned (footV R p cv pv)∧w'.ownsRow w.heap.size 61 4 cv t.length (zK t)∧w'.ownsRow w.heap.size 3 1 pv pl.length (zA pl):=by
 obtain ⟨hb,⟨he,hno⟩|⟨R',p',t',pl',cv,pv,hok,ht,hsm,he,hc,hp⟩⟩:=h
 ·exact absurd h2 (hno R p t pl h1)
 ·exact ⟨R',p',t',pl',cv,pv,hb,hok,ht,hsm,he,hc,hp⟩
theorem IX {foot R:Nat} {p:PlanB} {t:List ColB} {pl:List Nat} (h:FootOk foot R p t pl):∃ G P:Nat,p=⟨(G:Int),(P:Int),(foot:Int),false⟩∧1≤G∧G≤60∧1≤P∧P≤60:=by
 have h1:=h.plan
 simp only [qW,Bool.and_eq_true,decide_eq_true_eq] at h1
 refine ⟨p.group.toNat,p.page.toNat,?_,by omega,by omega,by omega,by omega⟩
 have h2:=h.foot
 have h3:=h.told
 cases p
 simp only [PlanB.mk.injEq] at *
 exact ⟨by omega,by omega,h2,h3⟩
theorem Um (f:FormF):(qe f).drop 4=f.parts∧4≤(qe f).length∧(qe f).length=4+f.parts.length:=by
 have:(Qv f.told f.foot).length=4:=rfl
 have h2:(qe f).length=4+f.parts.length:=by unfold qe;rw [List.length_append,this]
 exact ⟨by unfold qe;rw [← this,List.drop_left],by omega,h2⟩
theorem AU {foot R:Nat} {G P:Nat} {t:List ColB} {pl:List Nat} {parts footer:List UInt8} {S:SheetF} (hF:FootOk foot R ⟨(G:Int),(P:Int),(foot:Int),false⟩ t pl) (hsm:∀ c ∈ t,SmallC c) (htx:footer=qH R ⟨(G:Int),(P:Int),(foot:Int),false⟩ t pl) (hS:SheetOk foot parts footer S) :
  S.rows=R∧S.plan=⟨(G:Int),(P:Int),(foot:Int),false⟩∧S.cols=t∧qy S=jC R t.length G P∧jp t 4 true (jC R t.length G P) S.mods=pl∧ModsOk t (jC R t.length G P) S.mods∧parts=jl t (jC R t.length G P) S.mods:=by
 obtain ⟨e1,e2,e3,e4,e5,e6⟩:=KX (Ql hS) hF.len (hS.footer.symm.trans htx)
 have hp:=DH hS.plan hF.plan (hS.told.trans rfl) e2 e3 e4
 have hc:S.cols=t:=RV (XQ hS.heads hS.bare) hsm e5
 have hs:qy S=jC R t.length G P:=by unfold qy;rw [e1,hp,hc];rfl
 refine ⟨e1,hp,hc,hs,?_,?_,?_⟩
 ·rw [← hs,← hc];exact e6
 ·have:=hS.mods;rw [hs,hc] at this;exact this
 ·have:=hS.parts;rw [hs,hc] at this;exact this
theorem jn (w:World) (g:Nat) (cs:Array Value):w.grownBy (w.setRow g cs) (some g) :=
 ⟨rfl,rfl,rfl,by simp,fun k _ hk=>setRow_other w g k cs (fun e=>hk (by rw [e]))⟩
theorem MD (f:FormF) (footer:List UInt8) (w:World) (hs:footer.length≤maxLen) (hl:(qe f).length≤65000) :
  Calls Tryz.prog 230 #[formV f,strB footer] w (Pq f footer w):=by
 have Hs:=hid hs
 have H100:Hid ((qe f).length≤maxLen):=Nat.le_trans hl (by decide)
 have hl4:4+f.parts.length≤65000:=by
  have:(qe f).length=4+f.parts.length:=by simp [qe,Qv];omega
  omega
 clear hs
 generalize hsb:(if f.told=true then (83:UInt8) else 70)=sb at *
 have Hsb:=hid hsb
 have HFV:Hid (formV f=.agg #[.int .i64 (f.foot:Int),.bool f.told,strB f.footer,strB [sb],.int .i64 0,.int .i64 0,.int .i64 0,strB f.nonce,strB f.body,strB (qe f)]):=by show _=_;rw [formV,hsb]
 clear hsb
 have hfv:=HFV.out
 rw [hfv]
 clear hfv
 obtain ⟨hb0,hl0,hm0,ho0⟩:=JQ w #[.int .i64 (f.foot:Int),.bool f.told,strB f.footer,strB [sb],.int .i64 0,.int .i64 0,.int .i64 0,strB f.nonce,strB f.body,strB (qe f)] 115 #[.int .i64 0,.bool false,Value.string { data:=#[] },Value.string { data:=#[] },.int .i64 0,.int .i64 0,.int .i64 0,Value.string { data:=#[] },Value.string { data:=#[] },Value.string { data:=#[] },.int .i64 0,.int .i64 0,.int .i64 0,.int .i64 0,.bool false,.slice none 0 0,.slice none 0 0,.slice none 0 0] 120
 go_enter Tryz.func230,Tryz.ntmps230
 go_wp2_with fail
 generalize (w.alloc _).alloc _=W0 at *
 have HB0:=hid hb0
 have Hm0:=hid hm0
 have Ho0:=hid ho0
 have HC0:=hid (xg hm0).1
 clear hb0 hm0 ho0
 by_cases hx:¬ ∃ R p t pl,FootOk f.foot R p t pl∧footer=qH R p t pl
 ·have HN:Hid (xp f.foot f.parts footer=none):=Xl (fun S hS=>hx ⟨_,_,_,_,Dv hl4 hS,hS.footer⟩)
  have HNX:Hid (∀ R p t pl,FootOk f.foot R p t pl→footer≠qH R p t pl):=fun R p t pl h1 h2=>hx ⟨R,p,t,pl,h1,h2⟩
  clear hx
  refine wp_region_held_drew (S:=fun w'=>w'.cell? ⟨w.heap.size,0,none⟩=some (.int .i64 (f.foot:Int))∧w'.cell? ⟨w.heap.size,1,none⟩=some (.bool f.told)∧w'.cell? ⟨w.heap.size,2,none⟩=some (strB f.footer)∧w'.cell? ⟨w.heap.size,3,none⟩=some (strB [sb])∧w'.cell? ⟨w.heap.size,4,none⟩=some (.int .i64 0)∧w'.cell? ⟨w.heap.size,5,none⟩=some (.int .i64 0)∧w'.cell? ⟨w.heap.size,6,none⟩=some (.int .i64 0)∧w'.cell? ⟨w.heap.size,7,none⟩=some (strB f.nonce)∧w'.cell? ⟨w.heap.size,8,none⟩=some (strB f.body)∧w'.cell? ⟨w.heap.size,9,none⟩=some (strB (qe f))) (by kernel_rfl) ?_ (fun hHeld=>?_)
  ·exact HC0.out
  refine tk 0 (.agg #[.int .i64 (f.foot:Int),.bool f.told,strB f.footer,strB [sb],.int .i64 0,.int .i64 0,.int .i64 0,strB f.nonce,strB f.body,strB (qe f)]) ?_
  refine tk 1 (strB footer) ?_
  refine tk 2 (.pointer (some ⟨w.heap.size,0,none⟩)) ?_
  refine tk 3 (.int .i64 (f.foot:Int)) ?_
  simp only [ga,gb,gc,Act.put,gd,ge,gf]
  refine wpAnyH_ready (rs:=[4,6]) (by kernel_rfl) (by simp) ?_
  refine AllReadyH.cons (o:=_) rfl (fun K hK=>?_) (AllReadyH.cons (o:=_) rfl (fun K hK=>?_) AllReadyH.nil)
  ·simp only [ga,gb,gc]
   go_simp
   go_at_call 259
   refine (Qr footer f.foot _ Hs.out).mono ?_
   intro e w1 h1
   obtain ⟨rfl,hb1⟩:=Ni h1 HNX.out
   exact ⟨rfl,HB0.out.trans (ji (hb1.mono HB0.out.size)),.inl ⟨rfl,HN.out⟩⟩
  ·simp only [ga,gb,gc]
   go_simp
   try go_wp2_with fail
   have hbA:=(Below.refl W0.drew.heap.size W0.drew).alloc (Nat.le_refl _) (.cells #[.int .i64 0,.bool false,Value.string { data:=#[] },Value.string { data:=#[] },.int .i64 0,.int .i64 0,.int .i64 0,Value.string { data:=#[] },Value.string { data:=#[] },Value.string { data:=#[] },.int .i64 0,.int .i64 0,.int .i64 0,.int .i64 0,.bool false,.slice none 0 0,.slice none 0 0,.slice none 0 0] 120)
   have HCA:=hid (xg (jb (ji hbA) Hm0.out)).1
   refine hK.out _ _ HCA.out (fun hHeld=>?_)
   clear hK K
   try simp only [ga,gb,gc,Act.put,gd,ge,gf]
   refine rd 4 (fun K hK=>?_)
   simp only [ga,gb,gc]
   go_simp
   go_at_call 259
   refine (Qr footer f.foot _ Hs.out).mono ?_
   intro e w1 h1
   obtain ⟨rfl,hb1⟩:=Ni h1 HNX.out
   exact ⟨rfl,HB0.out.trans ((ji hbA).mono HB0.out.size |>.trans (hb1.mono (Nat.le_trans HB0.out.size (by simp)))),.inl ⟨rfl,HN.out⟩⟩
 ·obtain ⟨R,p0,t,pl,hF1,hF2⟩:=Classical.not_not.1 hx
  have HF:=hid (And.intro hF1 hF2)
  clear hx hF1 hF2
  obtain ⟨x0,x1,x2,x3,x4,x5,x6,x7,x8,x9⟩:=HC0.out
  have hsz0:=HB0.out.size
  have HR0:=hid Ho0.out
  refine wp_region_held_drew (S:=fun w'=>w'.cell? ⟨w.heap.size,0,none⟩=some (.int .i64 (f.foot:Int))∧w'.cell? ⟨w.heap.size,1,none⟩=some (.bool f.told)∧w'.cell? ⟨w.heap.size,2,none⟩=some (strB f.footer)∧w'.cell? ⟨w.heap.size,3,none⟩=some (strB [sb])∧w'.cell? ⟨w.heap.size,4,none⟩=some (.int .i64 0)∧w'.cell? ⟨w.heap.size,5,none⟩=some (.int .i64 0)∧w'.cell? ⟨w.heap.size,6,none⟩=some (.int .i64 0)∧w'.cell? ⟨w.heap.size,7,none⟩=some (strB f.nonce)∧w'.cell? ⟨w.heap.size,8,none⟩=some (strB f.body)∧w'.cell? ⟨w.heap.size,9,none⟩=some (strB (qe f))) (by kernel_rfl) ?_ (fun hHeld=>?_)
  ·exact HC0.out
  refine tk 0 (.agg #[.int .i64 (f.foot:Int),.bool f.told,strB f.footer,strB [sb],.int .i64 0,.int .i64 0,.int .i64 0,strB f.nonce,strB f.body,strB (qe f)]) ?_
  refine tk 1 (strB footer) ?_
  refine tk 2 (.pointer (some ⟨w.heap.size,0,none⟩)) ?_
  refine tk 3 (.int .i64 (f.foot:Int)) ?_
  simp only [ga,gb,gc,Act.put,gd,ge,gf]
  refine wpAnyH_ready (rs:=[4,6]) (by kernel_rfl) (by simp) ?_
  refine AllReadyH.cons (o:=_) rfl (fun K hK=>?_) (AllReadyH.cons (o:=_) rfl (fun K hK=>?_) AllReadyH.nil)
  case' refine_1 =>
   simp only [ga,gb,gc]
   go_simp
   go_at_call 259
   refine (Qr footer f.foot _ Hs.out).mono ?_
   intro e w1 h1
   obtain ⟨R1,p1,t1,pl1,cv,pv,hb1,hok1,htx1,hsm1,he1,hcv1,hpv1⟩:=VW h1 HF.out.1 HF.out.2
   obtain ⟨ca,cc,rfl⟩:=jr hcv1
   obtain ⟨pa,pc,rfl⟩:=jr hpv1
   obtain ⟨G1,P1,rfl,hG1,hG6,hP1,hP6⟩:=IX hok1
   subst he1
   have hb1':=ji hb1
   have HD1:=hid (xg (jb hb1' Hm0.out)).1
   have Hm1:=hid (jb hb1' Hm0.out)
   have Hr1:=hid (jb hb1' Ho0.out)
   have HB1:=hid (HB0.out.trans (hb1'.mono HB0.out.size))
   have HK1:=hid (And.intro hok1 (And.intro htx1 hsm1))
   have Hc1:=hid (jy hcv1 (show w.heap.size≤W0.drew.heap.size from HB0.out.size))
   have Hp1:=hid (jy hpv1 (show w.heap.size≤W0.drew.heap.size from HB0.out.size))
   have hsz1:=hb1'.size
   clear hb1 hb1' h1 hok1 htx1 hsm1 hcv1 hpv1
   try go_wp2_with fail
   refine hK.out _ _ HD1.out (fun hHeld=>?_)
   clear hK K
   try simp only [ga,gb,gc,Act.put,gd,ge,gf]
   refine tk 5 (.agg #[.int .i64 (f.foot:Int),.bool f.told,strB f.footer,strB [sb],.int .i64 0,.int .i64 0,.int .i64 0,strB f.nonce,strB f.body,strB (qe f),.int .i64 (R1:Int),.int .i64 (G1:Int),.int .i64 (P1:Int),.int .i64 (f.foot:Int),.bool false,.slice ca t1.length cc,.slice pa pl1.length pc,.slice none 0 0]) ?_
   simp only [ga,gb,gc,Act.put,gd,ge,gf]
   refine rd 6 (fun K hK=>?_)
   simp only [ga,gb,gc]
   go_simp
   obtain ⟨hbW,hlW,_,hQW⟩:=qg w1 #[.int .i64 0,.bool false,Value.string { data:=#[] },Value.string { data:=#[] },.int .i64 0,.int .i64 0,.int .i64 0,Value.string { data:=#[] },Value.string { data:=#[] },Value.string { data:=#[] },.int .i64 0,.int .i64 0,.int .i64 0,.int .i64 0,.bool false,.slice none 0 0,.slice none 0 0,.slice none 0 0] 120
   generalize w1.alloc _=WW at *
   have HQ:=hid hQW
   have HmW:=hid (jb hbW Hm1.out)
   have HrW:=hid (jb hbW Hr1.out)
   have HDW:=hid (xg HmW.out).1
   have HBW:=hid (HB1.out.trans (hbW.mono HB1.out.size))
   have Hcv:=hid (jw Hc1.out hbW)
   have Hpv:=hid (jw Hp1.out hbW)
   generalize hQQ:w1.heap.size=QQ at *
   have hQlo:w.heap.size+1 < QQ:=by omega
   clear hbW hQW hQQ
   try go_wp2_with fail
   refine hK.out _ _ HDW.out (fun hHeld=>?_)
   clear hK K
   try simp only [ga,gb,gc,Act.put,gd,ge,gf]
   refine rd 7 (fun K hK=>?_)
   simp only [ga,gb,gc]
   rw [if_pos (by simp [Region.wanted])]
   refine wp_store_row 120 (.tmp 5) (.tmp 12) rfl QQ #[.int .i64 (f.foot:Int),.bool f.told,strB f.footer,strB [sb],.int .i64 0,.int .i64 0,.int .i64 0,strB f.nonce,strB f.body,strB (qe f),.int .i64 (R1:Int),.int .i64 (G1:Int),.int .i64 (P1:Int),.int .i64 (f.foot:Int),.bool false,.slice ca t1.length cc,.slice pa pl1.length pc,.slice none 0 0] rfl rfl 120 #[.int .i64 0,.bool false,Value.string { data:=#[] },Value.string { data:=#[] },.int .i64 0,.int .i64 0,.int .i64 0,Value.string { data:=#[] },Value.string { data:=#[] },Value.string { data:=#[] },.int .i64 0,.int .i64 0,.int .i64 0,.int .i64 0,.bool false,.slice none 0 0,.slice none 0 0,.slice none 0 0] HQ.out (by kernel_rfl) rfl (by simp [Value.oneCell']) ?_
   have HoE:=hid (setRow_heap WW QQ _ #[.int .i64 (f.foot:Int),.bool f.told,strB f.footer,strB [sb],.int .i64 0,.int .i64 0,.int .i64 0,strB f.nonce,strB f.body,strB (qe f),.int .i64 (R1:Int),.int .i64 (G1:Int),.int .i64 (P1:Int),.int .i64 (f.foot:Int),.bool false,.slice ca t1.length cc,.slice pa pl1.length pc,.slice none 0 0] 120 (0,0) HQ.out)
   have HgE:=hid (jn WW QQ #[.int .i64 (f.foot:Int),.bool f.told,strB f.footer,strB [sb],.int .i64 0,.int .i64 0,.int .i64 0,strB f.nonce,strB f.body,strB (qe f),.int .i64 (R1:Int),.int .i64 (G1:Int),.int .i64 (P1:Int),.int .i64 (f.foot:Int),.bool false,.slice ca t1.length cc,.slice pa pl1.length pc,.slice none 0 0])
   generalize WW.setRow _ _=WE at *
   have HmE:=hid (jf HgE.out HmW.out (by omega))
   have HrE:=hid (jf HgE.out HrW.out (by omega))
   have HcE:=hid (qk Hcv.out HgE.out HQ.out (by decide))
   have HpE:=hid (qk Hpv.out HgE.out HQ.out (by decide))
   have HBE:=hid (HBW.out.trans (jg HgE.out (by omega) HBW.out.size))
   have HCE:=hid (xg HmE.out).1
   refine hK.out _ _ HCE.out (fun hHeld=>?_)
   clear hK K
   refine wpAnyH_done (by kernel_rfl) ?_ _
  case' refine_2 =>
   simp only [ga,gb,gc]
   go_simp
   try go_wp2_with fail
   obtain ⟨hbA,hlA,_,hQA⟩:=qg W0 #[.int .i64 0,.bool false,Value.string { data:=#[] },Value.string { data:=#[] },.int .i64 0,.int .i64 0,.int .i64 0,Value.string { data:=#[] },Value.string { data:=#[] },Value.string { data:=#[] },.int .i64 0,.int .i64 0,.int .i64 0,.int .i64 0,.bool false,.slice none 0 0,.slice none 0 0,.slice none 0 0] 120
   have hbA':=hbA
   generalize W0.alloc _=WA at *
   have HmA:=hid (jb hbA' Hm0.out)
   have HrA:=hid (jb hbA' Ho0.out)
   have HDA:=hid (xg HmA.out).1
   have HBA:=hid (HB0.out.trans (hbA'.mono HB0.out.size))
   have HQA:=hid hQA
   have hszA:W0.heap.size < WA.heap.size:=hlA
   clear hbA hbA' hQA
   refine hK.out _ _ HDA.out (fun hHeld=>?_)
   clear hK K
   try simp only [ga,gb,gc,Act.put,gd,ge,gf]
   refine rd 4 (fun K hK=>?_)
   simp only [ga,gb,gc]
   go_simp
   go_at_call 259
   refine (Qr footer f.foot _ Hs.out).mono ?_
   intro e WW h1
   obtain ⟨R1,p1,t1,pl1,cv,pv,hb1q,hok1,htx1,hsm1,he1,hcv1,hpv1⟩:=VW h1 HF.out.1 HF.out.2
   obtain ⟨ca,cc,rfl⟩:=jr hcv1
   obtain ⟨pa,pc,rfl⟩:=jr hpv1
   obtain ⟨G1,P1,rfl,hG1,hG6,hP1,hP6⟩:=IX hok1
   subst he1
   have hb1':=ji hb1q
   have HmW:=hid (jb hb1' HmA.out)
   have HDW:=hid (xg HmW.out).1
   have HrW:=hid (jb hb1' HrA.out)
   have HBW:=hid (HBA.out.trans (hb1'.mono HBA.out.size))
   have HK1:=hid (And.intro hok1 (And.intro htx1 hsm1))
   have Hcv:=hid (jy hcv1 (show w.heap.size≤WA.heap.size from HBA.out.size))
   have Hpv:=hid (jy hpv1 (show w.heap.size≤WA.heap.size from HBA.out.size))
   have hsz1:=hb1'.size
   have hQ0:=jb hb1' HQA.out
   have HQ:Hid (WW.heap[W0.heap.size]?=some (.cells #[.int .i64 0,.bool false,Value.string { data:=#[] },Value.string { data:=#[] },.int .i64 0,.int .i64 0,.int .i64 0,Value.string { data:=#[] },Value.string { data:=#[] },Value.string { data:=#[] },.int .i64 0,.int .i64 0,.int .i64 0,.int .i64 0,.bool false,.slice none 0 0,.slice none 0 0,.slice none 0 0] 120 (0,0))):=hQ0
   have hlW:W0.heap.size < WW.heap.size:=by omega
   clear hb1' hb1q h1 hok1 htx1 hsm1 hcv1 hpv1 hQ0
   generalize hQQ:W0.heap.size=QQ at *
   have hQlo:w.heap.size+1 < QQ:=by omega
   clear hQQ
   try go_wp2_with fail
   refine hK.out _ _ HDW.out (fun hHeld=>?_)
   clear hK K
   try simp only [ga,gb,gc,Act.put,gd,ge,gf]
   refine tk 5 (.agg #[.int .i64 (f.foot:Int),.bool f.told,strB f.footer,strB [sb],.int .i64 0,.int .i64 0,.int .i64 0,strB f.nonce,strB f.body,strB (qe f),.int .i64 (R1:Int),.int .i64 (G1:Int),.int .i64 (P1:Int),.int .i64 (f.foot:Int),.bool false,.slice ca t1.length cc,.slice pa pl1.length pc,.slice none 0 0]) ?_
   simp only [ga,gb,gc,Act.put,gd,ge,gf]
   refine rd 7 (fun K hK=>?_)
   simp only [ga,gb,gc]
   rw [if_pos (by simp [Region.wanted])]
   refine wp_store_row 120 (.tmp 5) (.tmp 12) rfl QQ #[.int .i64 (f.foot:Int),.bool f.told,strB f.footer,strB [sb],.int .i64 0,.int .i64 0,.int .i64 0,strB f.nonce,strB f.body,strB (qe f),.int .i64 (R1:Int),.int .i64 (G1:Int),.int .i64 (P1:Int),.int .i64 (f.foot:Int),.bool false,.slice ca t1.length cc,.slice pa pl1.length pc,.slice none 0 0] rfl rfl 120 #[.int .i64 0,.bool false,Value.string { data:=#[] },Value.string { data:=#[] },.int .i64 0,.int .i64 0,.int .i64 0,Value.string { data:=#[] },Value.string { data:=#[] },Value.string { data:=#[] },.int .i64 0,.int .i64 0,.int .i64 0,.int .i64 0,.bool false,.slice none 0 0,.slice none 0 0,.slice none 0 0] HQ.out (by kernel_rfl) rfl (by simp [Value.oneCell']) ?_
   have HoE:=hid (setRow_heap WW QQ _ #[.int .i64 (f.foot:Int),.bool f.told,strB f.footer,strB [sb],.int .i64 0,.int .i64 0,.int .i64 0,strB f.nonce,strB f.body,strB (qe f),.int .i64 (R1:Int),.int .i64 (G1:Int),.int .i64 (P1:Int),.int .i64 (f.foot:Int),.bool false,.slice ca t1.length cc,.slice pa pl1.length pc,.slice none 0 0] 120 (0,0) HQ.out)
   have HgE:=hid (jn WW QQ #[.int .i64 (f.foot:Int),.bool f.told,strB f.footer,strB [sb],.int .i64 0,.int .i64 0,.int .i64 0,strB f.nonce,strB f.body,strB (qe f),.int .i64 (R1:Int),.int .i64 (G1:Int),.int .i64 (P1:Int),.int .i64 (f.foot:Int),.bool false,.slice ca t1.length cc,.slice pa pl1.length pc,.slice none 0 0])
   generalize WW.setRow _ _=WE at *
   have HmE:=hid (jf HgE.out HmW.out (by omega))
   have HrE:=hid (jf HgE.out HrW.out (by omega))
   have HcE:=hid (qk Hcv.out HgE.out HQ.out (by decide))
   have HpE:=hid (qk Hpv.out HgE.out HQ.out (by decide))
   have HBE:=hid (HBW.out.trans (jg HgE.out (by omega) HBW.out.size))
   have HCE:=hid (xg HmE.out).1
   refine hK.out _ _ HCE.out (fun hHeld=>?_)
   clear hK K
   refine wpAnyH_done (by kernel_rfl) ?_ _
  all_goals
   have hszW:=HBE.out.size
   obtain ⟨_,_,_,_,_,_,_,_,_,x9⟩:=(xg HmE.out).1
   have hQE:=(Array.getElem?_eq_some_iff.1 HoE.out).1
   clear hHeld
   go_wp2_with fail
   clear x9
   refine (XG (qe f) WE).mono ?_
   rintro e w3 ⟨rfl,hrd3,hb3⟩
   have HQ3:=hid (jb hb3 HoE.out)
   have HR3:=hid (jb hb3 HrE.out)
   have HC3:=hid (jw HcE.out hb3)
   have HP3:=hid (jw HpE.out hb3)
   have HB3:=hid (HBE.out.trans (hb3.mono HBE.out.size))
   have hz3:=hb3.size
   generalize hpp:WE.heap.size=p at *
   clear hb3 hpp
   go_wp2_with fail
   obtain ⟨hd1,hd2,hd3⟩:=Um f
   refine (Jf p (qe f) (qe f) 4 w3 H100.out (by decide) hrd3).mono ?_
   rintro e w4 ⟨hg4,⟨hlt,rfl⟩|⟨hle,rfl,hp4⟩⟩
   ·exact absurd hd2 (Nat.not_le_of_lt hlt)
   rw [hd1] at hp4
   have HQ4:=hid (jf hg4 HQ3.out (by omega))
   have HR4:=hid (jf hg4 HR3.out (by omega))
   have HC4:=hid (qk HC3.out hg4 (xQ hrd3) (by decide))
   have HP4:=hid (qk HP3.out hg4 (xQ hrd3) (by decide))
   have HB4:=hid (HB3.out.trans (jg hg4 (by omega) (by omega)))
   have hz4:=hg4.size
   have Hp4:=hid hp4
   have Hd3:=hid hd3
   clear hg4 hp4 hrd3 hd1 hd2 hd3 hle
   generalize (qe f).take 4=hd4 at *
   obtain ⟨hok1,htx1,hsm1⟩:=HK1.out
   have hh1:=hok1.heads
   simp only [jU,Bool.and_eq_true,decide_eq_true_eq] at hh1
   have HOK1:=hid hok1
   have HTX:=hid htx1
   have HSM:=hid hsm1
   have hR60:=hok1.rows
   have hn16:=hh1.2
   have HLEN:=hid hok1.len
   clear hok1 htx1 hsm1 hh1
   go_wp2_with fail
   refine (NX t1 R1 G1 P1 t1.length QQ p w.heap.size pl1.length _ _ _ _ _ _ _ _ _ _ _ _ _ _ pl1 (qe f) f.parts w4 H100.out Hp4.out (by rw [Hd3.out];exact Nat.add_sub_cancel _ _) hR60 hG1 hG6 hP1 hP6 hn16.1 hn16.2 rfl (by rw [HLEN.out];rfl) rfl HQ4.out HC4.out HP4.out (by omega)).mono ?_
   have HSAME:Hid (∀ S,SheetOk f.foot f.parts footer S→S.rows=R1∧S.plan=⟨(G1:Int),(P1:Int),(f.foot:Int),false⟩∧S.cols=t1∧qy S=jC R1 t1.length G1 P1∧jp t1 4 true (jC R1 t1.length G1 P1) S.mods=pl1∧ModsOk t1 (jC R1 t1.length G1 P1) S.mods∧f.parts=jl t1 (jC R1 t1.length G1 P1) S.mods):=fun S hS=>AU HOK1.out HSM.out HTX.out hS
   rintro e w5 ⟨hT,⟨rfl,hno⟩|⟨Kb,V,Qp,Qm,Pv,r,rfl,hSh,hrd5,hmok,hbytes,hpl⟩⟩
   ·have HN:Hid (xp f.foot f.parts footer=none):=Xl (fun S hS=>by
     obtain ⟨_,_,_,_,h5,h6,h7⟩:=HSAME.out S hS
     exact hno S.mods [] h6 (by rw [List.append_nil];exact h7) h5.symm)
    have HB5:=hid (HB4.out.trans (hT.below (by omega) (by omega) HB4.out.size))
    clear hno hT
    go_wp2
    exact ⟨rfl,HB5.out,.inl ⟨rfl,HN.out⟩⟩
   have HB5:=hid (HB4.out.trans (hT.below (by omega) (by omega) HB4.out.size))
   have HC5:=hid (hT.owns HC4.out (xQ Hp4.out) HQ4.out (by decide) (by decide))
   have HR5:=hid (hT.keeps HR4.out (by omega) (by omega))
   have HSh:=hid hSh
   have Hrd5:=hid hrd5
   have HM5:=hid (And.intro hmok (And.intro hbytes hpl))
   have hz5:=hT.size
   clear hT hSh hrd5 hmok hbytes hpl
   go_wp2_with fail
   refine (Rb p (qe f) r w5 H100.out Hrd5.out).mono ?_
   rintro e w6 ⟨hb6,⟨hne,rfl⟩|⟨hnil,rfl⟩⟩
   ·have HN:Hid (xp f.foot f.parts footer=none):=Xl (fun S hS=>by
     obtain ⟨_,_,_,_,h5,h6,h7⟩:=HSAME.out S hS
     obtain ⟨m1,m2,_⟩:=HM5.out
     rw [m2] at h7
     have h6':ModsOk t1 (jC R1 t1.length G1 P1++[]) S.mods:=by rw [List.append_nil];exact h6
     obtain ⟨M2,_,h9,h10⟩:=ZQ (rest:=r) (q:=[]) m1 h6' (by rw [List.append_nil,List.append_nil];exact h7)
     cases h9
     exact hne (by simpa [jl] using h10))
    have HB6:=hid (HB5.out.trans (hb6.mono HB5.out.size))
    clear hne hb6
    go_wp2
    exact ⟨rfl,HB6.out,.inl ⟨rfl,HN.out⟩⟩
   have HB6:=hid (HB5.out.trans (hb6.mono HB5.out.size))
   have HC6:=hid (jw HC5.out hb6)
   have HR6:=hid (jb hb6 HR5.out)
   have HSh6:=hid (HSh.out.later hb6)
   have hz6:=hb6.size
   have HSOK:Hid (SheetOk f.foot f.parts footer ⟨R1,⟨(G1:Int),(P1:Int),(f.foot:Int),false⟩,t1,qV (fun g c=>Qp g c++[Qm g c]) t1.length (jW R1 G1)⟩):=by
    obtain ⟨m1,m2,m3⟩:=HM5.out
    have hk:=HOK1.out
    refine ⟨hk.rows,hk.plan,rfl,rfl,hk.heads,hk.bare,m1,?_,?_⟩
    ·rw [m2,hnil,List.append_nil];rfl
    ·rw [HTX.out,m3];rfl
   clear hb6 hnil
   have HQ6:Hid (w6.heap[QQ]?=some (.cells #[.int .i64 (f.foot:Int),.bool f.told,strB f.footer,strB [sb],.int .i64 0,.int .i64 0,.int .i64 0,strB f.nonce,strB f.body,strB (qe f),.int .i64 (R1:Int),.int .i64 (G1:Int),.int .i64 (P1:Int),.int .i64 (f.foot:Int),.bool false,.slice ca t1.length cc,.slice pa pl1.length pc,.slice (some ⟨Kb,0,none⟩) t1.length t1.length] 120 (0,0))):=HSh6.out.sheet
   go_wp2_with (first|(refine wpList_load_row rfl 120 (.tmp 5) rfl QQ rfl 120 #[.int .i64 (f.foot:Int),.bool f.told,strB f.footer,strB [sb],.int .i64 0,.int .i64 0,.int .i64 0,strB f.nonce,strB f.body,strB (qe f),.int .i64 (R1:Int),.int .i64 (G1:Int),.int .i64 (P1:Int),.int .i64 (f.foot:Int),.bool false,.slice ca t1.length cc,.slice pa pl1.length pc,.slice (some ⟨Kb,0,none⟩) t1.length t1.length] (0,0) _ HQ6.out Tryz.underlying120 rfl (by kernel_rfl) ?_)|(refine wpList_store_row rfl 120 (.tmp 4) (.tmp 22) rfl (w.heap.size+1) #[.int .i64 (f.foot:Int),.bool f.told,strB f.footer,strB [sb],.int .i64 0,.int .i64 0,.int .i64 0,strB f.nonce,strB f.body,strB (qe f),.int .i64 (R1:Int),.int .i64 (G1:Int),.int .i64 (P1:Int),.int .i64 (f.foot:Int),.bool false,.slice ca t1.length cc,.slice pa pl1.length pc,.slice (some ⟨Kb,0,none⟩) t1.length t1.length] rfl rfl 120 #[.int .i64 0,.bool false,Value.string { data:=#[] },Value.string { data:=#[] },.int .i64 0,.int .i64 0,.int .i64 0,Value.string { data:=#[] },Value.string { data:=#[] },Value.string { data:=#[] },.int .i64 0,.int .i64 0,.int .i64 0,.int .i64 0,.bool false,.slice none 0 0,.slice none 0 0,.slice none 0 0] HR6.out (by kernel_rfl) rfl (by simp [Value.oneCell']) ?_))
   have HoF:=hid (setRow_heap w6 (w.heap.size+1) _ #[.int .i64 (f.foot:Int),.bool f.told,strB f.footer,strB [sb],.int .i64 0,.int .i64 0,.int .i64 0,strB f.nonce,strB f.body,strB (qe f),.int .i64 (R1:Int),.int .i64 (G1:Int),.int .i64 (P1:Int),.int .i64 (f.foot:Int),.bool false,.slice ca t1.length cc,.slice pa pl1.length pc,.slice (some ⟨Kb,0,none⟩) t1.length t1.length] 120 (0,0) HR6.out)
   have HgF:=hid (jn w6 (w.heap.size+1) #[.int .i64 (f.foot:Int),.bool f.told,strB f.footer,strB [sb],.int .i64 0,.int .i64 0,.int .i64 0,strB f.nonce,strB f.body,strB (qe f),.int .i64 (R1:Int),.int .i64 (G1:Int),.int .i64 (P1:Int),.int .i64 (f.foot:Int),.bool false,.slice ca t1.length cc,.slice pa pl1.length pc,.slice (some ⟨Kb,0,none⟩) t1.length t1.length])
   have HCF:=hid (qk HC6.out HgF.out HR6.out (by decide))
   have HKF:=hid (jf HgF.out HSh6.out.kb (by have:=HSh6.out.new;omega))
   have HVF:=hid (fun i (hi:i < t1.length)=>(HSh6.out.cols i hi).keep (fun n xs hu=>qk hu HgF.out HR6.out (by decide)) (fun u n xs hu=>qk hu HgF.out HR6.out (by decide)))
   have HBF:=hid (HB6.out.trans (jg HgF.out (by omega) HB6.out.size))
   generalize w6.setRow _ _=WF at *
   refine bodyPost_ret (v:=.agg #[.int .i64 (f.foot:Int),.bool f.told,strB f.footer,strB [sb],.int .i64 0,.int .i64 0,.int .i64 0,strB f.nonce,strB f.body,strB (qe f),.int .i64 (R1:Int),.int .i64 (G1:Int),.int .i64 (P1:Int),.int .i64 (f.foot:Int),.bool false,.slice ca t1.length cc,.slice pa pl1.length pc,.slice (some ⟨Kb,0,none⟩) t1.length t1.length]) (results_cell_row (P:=Tryz.prog) (p:=4) (ty:=120) rfl _ _ (w.heap.size+1) 120 #[.int .i64 (f.foot:Int),.bool f.told,strB f.footer,strB [sb],.int .i64 0,.int .i64 0,.int .i64 0,strB f.nonce,strB f.body,strB (qe f),.int .i64 (R1:Int),.int .i64 (G1:Int),.int .i64 (P1:Int),.int .i64 (f.foot:Int),.bool false,.slice ca t1.length cc,.slice pa pl1.length pc,.slice (some ⟨Kb,0,none⟩) t1.length t1.length] (0,0) _ rfl HoF.out Tryz.underlying120 rfl (by kernel_rfl)) rfl ⟨HBF.out,.inr ⟨⟨R1,⟨(G1:Int),(P1:Int),(f.foot:Int),false⟩,t1,qV (fun g c=>Qp g c++[Qm g c]) t1.length (jW R1 G1)⟩,_,.slice ca t1.length cc,.slice pa pl1.length pc,Kb,V,Qp,Qm,Pv,US HSOK.out,HSOK.out,rfl,⟨?_,HCF.out,⟨_,_,_,rfl⟩,HSM.out,?_,HKF.out,fun i hi=>?_,rfl⟩⟩⟩
   ·rw [Hsb.out]
   ·have:=HSh6.out.new
    have:=HB4.out.size
    omega
   ·have:=HVF.out i hi
    rw [if_neg (Nat.not_lt_zero i)] at this
    exact this.lower HB4.out.size
end
section
abbrev fileC (f:FormF):Array Value:=#[.bool f.told,.int .i64 (f.foot:Int),strB f.parts,strB f.footer,strB f.nonce,strB f.body]
abbrev file0:Array Value:=#[.bool false,.int .i64 0,Value.string { data:=#[] },Value.string { data:=#[] },Value.string { data:=#[] },Value.string { data:=#[] }]
def EX (file:List UInt8) (w:World) (e:Ending) (w':World):Prop :=
 Below w.heap.size w w'∧((zP file=none∧∃ C:Array Value,(C.size=6∧C.all (·.oneCell')=true)∧e=.returned (.tuple #[.agg C,.bool false]))∨∃ f,zP file=some f∧e=.returned (.tuple #[.agg (fileC f),.bool true]))
theorem ql {P:Program} {fn:Func} {p q:Tmp} {ty:TypeId} (h:fn.results=#[.cell p ty,.tmp q]) (tmps:Array Value) (w:World) (g:Nat) (cs:Array Value) (x:Value)
  (hp:tmps.getD p undef=.pointer (some ⟨g,0,none⟩)) (hq:tmps.getD q undef=x) (hl:(loadVar ty ⟨g,0,none⟩).run P w=.ok (.agg cs) w) :
  (results fn tmps).run P w=.ok (.tuple #[.agg cs,x]) w:=by
 have hp':tmps[p]?.getD undef=.pointer (some ⟨g,0,none⟩):=by simpa using hp
 have hq':tmps[q]?.getD undef=x:=by simpa using hq
 simp [results,h,hp',hq',asAddr,hl]
theorem Ie (file:List UInt8) (w:World) (hs:file.length≤maxLen) (hbad:65000 < file.length∨file.length < 8∨file.take 2≠[67,70]∨file.drop (file.length - 2)≠[67,70]∨(file.getD 2 0≠69∧file.getD 2 0≠79)∨(file.getD 3 0).toNat < 1∨9 < (file.getD 3 0).toNat) :
  Calls Tryz.prog 88 #[strB file] w (EX file w):=by
 have Hbad:=hid hbad
 clear hbad
 obtain ⟨hb0,hl0,_,ho0⟩:=qg w file0 169
 have HB0:=hid hb0
 have Ho0:=hid ho0
 clear hb0 ho0
 have HF:Hid ((65000 < file.length∨file.length < 8∨file.take 2≠[67,70]∨file.drop (file.length - 2)≠[67,70]∨(file.getD 2 0≠69∧file.getD 2 0≠79)∨(file.getD 3 0).toNat < 1∨9 < (file.getD 3 0).toNat)→zP file=none):=fun h=>by
  unfold zP
  rw [if_pos h]
 by_cases h1:65000 < file.length
 ·have HN:Hid (zP file=none):=HF.out (.inl h1)
  have h1i:(65000:Int) < (file.length:Int):=by omega
  clear h1
  go_enter Tryz.func88,Tryz.ntmps88
  go_wp2
  exact bodyPost_ret (v:=.tuple #[.agg file0,.bool false]) (ql (p:=2) (q:=3) rfl _ _ _ _ _ rfl rfl (run_loadVar_row (P:=Tryz.prog) _ w.heap.size 169 169 file0 (0,0) _ Ho0.out Tryz.underlying169 rfl (by kernel_rfl))) rfl ⟨HB0.out,.inl ⟨HN.out,_,⟨by rfl,by simp [Value.oneCell']⟩,rfl⟩⟩
 have h1d:decide ((65000:Int) < (file.length:Int))=false:=decide_eq_false (by omega)
 have h1i:(file.length:Int)≤65000:=by omega
 by_cases h2:file.length < 8
 ·have HN:Hid (zP file=none):=HF.out (.inr (.inl h2))
  have h2i:(file.length:Int) < 8:=by omega
  clear h1 h2
  go_enter Tryz.func88,Tryz.ntmps88
  go_wp2
  exact bodyPost_ret (v:=.tuple #[.agg file0,.bool false]) (ql (p:=2) (q:=3) rfl _ _ _ _ _ rfl rfl (run_loadVar_row (P:=Tryz.prog) _ w.heap.size 169 169 file0 (0,0) _ Ho0.out Tryz.underlying169 rfl (by kernel_rfl))) rfl ⟨HB0.out,.inl ⟨HN.out,_,⟨by rfl,by simp [Value.oneCell']⟩,rfl⟩⟩
 have h2d:decide ((file.length:Int) < 8)=false:=decide_eq_false (by omega)
 have h2i:(8:Int)≤(file.length:Int):=by omega
 have e3:((⟨file.toArray⟩:ByteArray).extract 0 2).toList=file.take 2:=by rw [ByteArray.toList_eq];simp
 have e4:((⟨file.toArray⟩:ByteArray).extract (file.length - 2) file.length).toList=file.drop (file.length - 2):=by rw [ByteArray.toList_eq];simp;rw [List.take_of_length_le (by simp)]
 by_cases h3:file.take 2=[67,70]
 case neg =>
  have HN:Hid (zP file=none):=HF.out (.inr (.inr (.inl h3)))
  have h3d:(((⟨file.toArray⟩:ByteArray).extract 0 2).toList == [67,70])=false:=by rw [e3];simpa using h3
  clear h1 h2 h3 e3 e4
  go_enter Tryz.func88,Tryz.ntmps88
  go_wp2
  exact bodyPost_ret (v:=.tuple #[.agg file0,.bool false]) (ql (p:=2) (q:=3) rfl _ _ _ _ _ rfl rfl (run_loadVar_row (P:=Tryz.prog) _ w.heap.size 169 169 file0 (0,0) _ Ho0.out Tryz.underlying169 rfl (by kernel_rfl))) rfl ⟨HB0.out,.inl ⟨HN.out,_,⟨by rfl,by simp [Value.oneCell']⟩,rfl⟩⟩
 have h3d:(((⟨file.toArray⟩:ByteArray).extract 0 2).toList == [67,70])=true:=by rw [e3];simpa using h3
 by_cases h4:file.drop (file.length - 2)=[67,70]
 case neg =>
  have HN:Hid (zP file=none):=HF.out (.inr (.inr (.inr (.inl h4))))
  have h4d:(((⟨file.toArray⟩:ByteArray).extract (file.length - 2) file.length).toList == [67,70])=false:=by rw [e4];simpa using h4
  clear h1 h2 h3 h4 e3 e4
  go_enter Tryz.func88,Tryz.ntmps88
  go_wp2
  exact bodyPost_ret (v:=.tuple #[.agg file0,.bool false]) (ql (p:=2) (q:=3) rfl _ _ _ _ _ rfl rfl (run_loadVar_row (P:=Tryz.prog) _ w.heap.size 169 169 file0 (0,0) _ Ho0.out Tryz.underlying169 rfl (by kernel_rfl))) rfl ⟨HB0.out,.inl ⟨HN.out,_,⟨by rfl,by simp [Value.oneCell']⟩,rfl⟩⟩
 have h4d:(((⟨file.toArray⟩:ByteArray).extract (file.length - 2) file.length).toList == [67,70])=true:=by rw [e4];simpa using h4
 have hl2:2 < (⟨file.toArray⟩:ByteArray).size:=by simp [ByteArray.size];omega
 have hl3:3 < (⟨file.toArray⟩:ByteArray).size:=by simp [ByteArray.size];omega
 obtain ⟨b2,hb2⟩:∃ b,file[2]?=some b:=⟨file[2],List.getElem?_eq_getElem (by omega)⟩
 obtain ⟨b3,hb3⟩:∃ b,file[3]?=some b:=⟨file[3],List.getElem?_eq_getElem (by omega)⟩
 have g2:file.getD 2 0=b2:=by simp [List.getD,hb2]
 have g3:file.getD 3 0=b3:=by simp [List.getD,hb3]
 have i2:((⟨file.toArray⟩:ByteArray)[2]'hl2).toNat=b2.toNat:=by
  have:=(List.getElem?_eq_some_iff.1 hb2).2
  rw [← this];rfl
 have i3:((⟨file.toArray⟩:ByteArray)[3]'hl3).toNat=b3.toNat:=by
  have:=(List.getElem?_eq_some_iff.1 hb3).2
  rw [← this];rfl
 have Hg2:=hid g2
 have Hg3:=hid g3
 have H1:=hid h1
 have H2:=hid h2
 have H3:=hid h3
 have H4:=hid h4
 clear hb2 hb3 e3 e4 h1 h2 h3 h4 g2 g3
 by_cases h5:b2=69∨b2=79
 case neg =>
  have HN:Hid (zP file=none):=HF.out (.inr (.inr (.inr (.inr (.inl (by rw [Hg2.out];exact ⟨fun h=>h5 (.inl h),fun h=>h5 (.inr h)⟩))))))
  have h5a:((b2.toNat:Int) != 69)=true:=by
   rw [bne_iff_ne];intro h;exact h5 (.inl (UInt8.toNat.inj (by show b2.toNat=69;omega)))
  have h5b:((b2.toNat:Int) != 79)=true:=by
   rw [bne_iff_ne];intro h;exact h5 (.inr (UInt8.toNat.inj (by show b2.toNat=79;omega)))
  clear h5
  go_enter Tryz.func88,Tryz.ntmps88
  go_wp2
  exact bodyPost_ret (v:=.tuple #[.agg file0,.bool false]) (ql (p:=2) (q:=3) rfl _ _ _ _ _ rfl rfl (run_loadVar_row (P:=Tryz.prog) _ w.heap.size 169 169 file0 (0,0) _ Ho0.out Tryz.underlying169 rfl (by kernel_rfl))) rfl ⟨HB0.out,.inl ⟨HN.out,_,⟨by rfl,by simp [Value.oneCell']⟩,rfl⟩⟩
 have h5a:(b2=69∧((b2.toNat:Int) != 69)=false∧((b2.toNat:Int) == 79)=false)∨(b2=79∧((b2.toNat:Int) != 69)=true∧((b2.toNat:Int) != 79)=false∧((b2.toNat:Int) == 79)=true):=by
  rcases h5 with rfl|rfl
  ·exact .inl ⟨rfl,rfl,rfl⟩
  ·exact .inr ⟨rfl,rfl,rfl,rfl⟩
 clear h5
 by_cases h6:b3.toNat < 1
 ·have HN:Hid (zP file=none):=HF.out (.inr (.inr (.inr (.inr (.inr (.inl (by rw [Hg3.out];exact h6)))))))
  have h6d:decide ((b3.toNat:Int) < 1)=true:=decide_eq_true (by omega)
  clear h6
  rcases h5a with ⟨_,h5b,_⟩|⟨_,h5b,h5c,_⟩
  ·go_enter Tryz.func88,Tryz.ntmps88
   go_wp2
   exact bodyPost_ret (v:=.tuple #[.agg file0,.bool false]) (ql (p:=2) (q:=3) rfl _ _ _ _ _ rfl rfl (run_loadVar_row (P:=Tryz.prog) _ w.heap.size 169 169 file0 (0,0) _ Ho0.out Tryz.underlying169 rfl (by kernel_rfl))) rfl ⟨HB0.out,.inl ⟨HN.out,_,⟨by rfl,by simp [Value.oneCell']⟩,rfl⟩⟩
  ·go_enter Tryz.func88,Tryz.ntmps88
   go_wp2
   exact bodyPost_ret (v:=.tuple #[.agg file0,.bool false]) (ql (p:=2) (q:=3) rfl _ _ _ _ _ rfl rfl (run_loadVar_row (P:=Tryz.prog) _ w.heap.size 169 169 file0 (0,0) _ Ho0.out Tryz.underlying169 rfl (by kernel_rfl))) rfl ⟨HB0.out,.inl ⟨HN.out,_,⟨by rfl,by simp [Value.oneCell']⟩,rfl⟩⟩
 have h6d:decide ((b3.toNat:Int) < 1)=false:=decide_eq_false (by omega)
 by_cases h7:9 < b3.toNat
 ·have HN:Hid (zP file=none):=HF.out (.inr (.inr (.inr (.inr (.inr (.inr (by rw [Hg3.out];exact h7)))))))
  have h7d:decide ((9:Int) < (b3.toNat:Int))=true:=decide_eq_true (by omega)
  clear h6 h7
  rcases h5a with ⟨_,h5b,_⟩|⟨_,h5b,h5c,_⟩
  ·go_enter Tryz.func88,Tryz.ntmps88
   go_wp2
   exact bodyPost_ret (v:=.tuple #[.agg file0,.bool false]) (ql (p:=2) (q:=3) rfl _ _ _ _ _ rfl rfl (run_loadVar_row (P:=Tryz.prog) _ w.heap.size 169 169 file0 (0,0) _ Ho0.out Tryz.underlying169 rfl (by kernel_rfl))) rfl ⟨HB0.out,.inl ⟨HN.out,_,⟨by rfl,by simp [Value.oneCell']⟩,rfl⟩⟩
  ·go_enter Tryz.func88,Tryz.ntmps88
   go_wp2
   exact bodyPost_ret (v:=.tuple #[.agg file0,.bool false]) (ql (p:=2) (q:=3) rfl _ _ _ _ _ rfl rfl (run_loadVar_row (P:=Tryz.prog) _ w.heap.size 169 169 file0 (0,0) _ Ho0.out Tryz.underlying169 rfl (by kernel_rfl))) rfl ⟨HB0.out,.inl ⟨HN.out,_,⟨by rfl,by simp [Value.oneCell']⟩,rfl⟩⟩
 have h7d:decide ((9:Int) < (b3.toNat:Int))=false:=decide_eq_false (by omega)
 exfalso
 rcases Hbad.out with h|h|h|h|⟨h,h'⟩|h|h
 ·exact H1.out h
 ·exact H2.out h
 ·exact h H3.out
 ·exact h H4.out
 ·rw [Hg2.out] at h h'
  rcases h5a with ⟨h5,_⟩|⟨h5,_⟩
  ·exact h h5
  ·exact h' h5
 ·rw [Hg3.out] at h
  omega
 ·rw [Hg3.out] at h
  omega
end
end Go.Proofs.YthhpbhpfagoapaaGreat
