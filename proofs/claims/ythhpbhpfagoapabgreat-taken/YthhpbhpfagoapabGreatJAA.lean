import Derived.Test.YthhpbhpfagoapabGreatJBC
import Derived.Test.YthhpbhpfagoapabGreatJAV
import Derived.Test.YthhpbhpfagoapabGreatJAO
import Derived.Test.YthhpbhpfagoapabGreatJAT
import Derived.Test.YthhpbhpfagoapabGreatJAI
namespace Go.Proofs.YthhpbhpfagoapabGreat
set_option linter.unusedVariables false
set_option linter.unusedSimpArgs false
set_option maxRecDepth 100000
set_option maxHeartbeats 16000000
section
open Go.RowKit
theorem YL {w:World} {base n:Nat} {v:Value} {c without:Int} (h:w.ownsRow base 68 2 v n (Kh (JG c without 5))) (hok:∀ x ∈ jV c without,Cv x) :
  ∃ a cap,v=.slice a (jV c without).length cap∧LiesK w a (jV c without):=by
 have hk:Kh (JG c without 5)=(jV c without).flatMap fun x=>[.int .i64 x.number,strB x.secret]:=by
  simp [Kh,jV,List.flatMap_map]
 rw [hk] at h
 have hlen:=Uk (fun x:KeyB=>[Value.int .i64 x.number,strB x.secret]) 2 (fun _=>rfl) (jV c without)
 have hn:n=(jV c without).length:=by have:=h.1;rw [hlen] at this;omega
 subst hn
 rcases h.2 with ⟨rfl,h0⟩|⟨g,cap,cur,rfl,_,hg,_⟩
 ·refine ⟨none,0,by rw [h0],hok,fun hne=>absurd (List.eq_nil_of_length_eq_zero h0) hne⟩
 ·refine ⟨_,_,rfl,hok,fun _=>⟨g,0,rfl,(h.lt g rfl).2,fun j hj=>?_⟩⟩
  have f1:=Jt (fun x:KeyB=>[Value.int .i64 x.number,strB x.secret]) 2 (fun _=>rfl) (jV c without) j 0 hj (by decide)
  have f2:=Jt (fun x:KeyB=>[Value.int .i64 x.number,strB x.secret]) 2 (fun _=>rfl) (jV c without) j 1 hj (by decide)
  simp only [Nat.zero_add]
  exact ⟨by rw [h.cellAt (j*2) (by omega)];exact f1,by rw [h.cellAt (j*2+1) (by omega)];exact f2⟩
theorem MJ {w:World} {base:Nat} {tv:Value} {P:List (ColB × Value)} {j:JobB} {r:List KeyB} (h:RowsT w base tv P) (hP:P.map Prod.fst=j.table) (hg:GoodJ j r) :
  ∃ a cap,tv=.slice a j.table.length cap∧LiesJ w a cap j:=by
 have hlen:P.length=j.table.length:=by rw [← hP,List.length_map]
 obtain ⟨a,cap,rfl,hc,hl⟩:=h.lies (by
  intro p hp
  obtain ⟨k,hk,rfl⟩:=List.mem_iff_getElem.1 hp
  have hk':k < j.table.length:=by omega
  have e:(P[k]).1=j.table[k]:=by
   have:(P.map Prod.fst)[k]'(by rw [List.length_map];exact hk)=j.table[k]:=by simp only [hP]
   simpa using this
  obtain ⟨n1,n2,n3,n4⟩:=hg.table.head k hk'
  obtain ⟨c1,c2,c3⟩:=hg.table.cells k hk'
  rw [e]
  refine ⟨⟨by have:=(KS n1).2;unfold maxLen;omega,⟨by omega,by omega⟩,⟨by omega,by omega⟩⟩,fun x hx=>?_,by omega⟩
  obtain ⟨s1,s2,s3⟩:=c3 x hx
  exact ⟨s1,s2,by unfold maxLen;omega⟩)
 rw [hP] at hl
 have hp:=hg.sizes
 have hpl:=hg.plan
 simp only [qP,Bool.and_eq_true,decide_eq_true_eq] at hpl
 have h6:=hg.table.few.2
 have hd:=hg.draw
 have hpr:=hg.pre
 exact ⟨a,cap,by rw [hlen],hl,by unfold maxLen;omega,by omega,by unfold maxLen;omega,⟨by omega,by omega⟩,⟨by omega,by omega⟩,⟨by omega,by omega⟩,⟨by omega,by omega⟩⟩
end
section
open Go.RowKit
instance decCellB:DecidableEq CellB:=fun a b=>decidable_of_iff (a.null=b.null∧a.int=b.int∧a.text=b.text) ⟨fun ⟨h1,h2,h3⟩=>by cases a;cases b;simp_all,fun h=>by subst h;exact ⟨rfl,rfl,rfl⟩⟩
theorem Xn {B:Nat} {w w':World} (h:Below B w w'):Below B w w'.drew:=⟨h.os,h.tape,h.output,h.size,h.block⟩
theorem UG {α:Type} {l m:List α} {k:Nat} (hk:k < l.length) (hk2:k < m.length) (h:l.take k=m.take k) (he:l[k]=m[k]):l.take (k+1)=m.take (k+1):=by
 rw [List.take_succ_eq_append_getElem hk,List.take_succ_eq_append_getElem hk2,h,he]
structure LiesF (w:World) (a:Option Addr) (F:Nat→FoundB) (n:Nat):Prop where
 at_:0 < n→∃ b,a=some ⟨b,0,none⟩∧b < w.heap.size∧∀ j,j < n→∃ ca cc,
  w.cell? ⟨b,j*5,none⟩=some (strB (F j).name)∧w.cell? ⟨b,j*5+1,none⟩=some (.int .i64 (F j).kind)∧w.cell? ⟨b,j*5+2,none⟩=some (.int .i64 (F j).key)∧w.cell? ⟨b,j*5+3,none⟩=some (.int .i64 (F j).state) ∧
  w.cell? ⟨b,j*5+4,none⟩=some (.slice ca (F j).cells.length cc)∧Lies w ca (F j).cells∧(F j).cells.length≤1000
theorem LiesF.later {w w':World} {a:Option Addr} {F:Nat→FoundB} {n:Nat} (h:LiesF w a F n) (hb:Below w.heap.size w w'):LiesF w' a F n:=by
 refine ⟨fun hne=>?_⟩
 obtain ⟨b,ha,hlt,hc⟩:=h.at_ hne
 refine ⟨b,ha,Nat.lt_of_lt_of_le hlt hb.size,fun j hj=>?_⟩
 obtain ⟨ca,cc,h1,h2,h3,h4,h5,h6,h7⟩:=hc j hj
 exact ⟨ca,cc,(hb.cell (p:=⟨b,_,none⟩) hlt).trans h1,(hb.cell (p:=⟨b,_,none⟩) hlt).trans h2,(hb.cell (p:=⟨b,_,none⟩) hlt).trans h3,(hb.cell (p:=⟨b,_,none⟩) hlt).trans h4,(hb.cell (p:=⟨b,_,none⟩) hlt).trans h5,h6.later hb,h7⟩
theorem Zc {F:Nat→FoundB} {Vs:Nat→Value} {n j:Nat} (hj:j < n) {i:Nat} (hi:i < 5):(Xc F Vs n)[j*5+i]?=(Gb (F j) (Vs j))[i]?:=by
 unfold Xc
 rw [List.flatMap_def,KB (s:=5) _ hi]
 ·rw [List.getElem?_map,List.getElem?_range hj];rfl
 ·intro x hx
  simp only [List.mem_map] at hx
  obtain ⟨k,_,rfl⟩:=hx
  rfl
theorem FoundsAt.lies {base:Nat} {w:World} {v:Value} {F:Nat→FoundB} {n:Nat} {Vs:Nat→Value} (h:FoundsAt base w v F n Vs) (hlen:∀ j,j < n→(F j).cells.length≤1000):∃ a cap,v=.slice a n cap∧LiesF w a F n:=by
 rcases h.row.2 with ⟨hv,h0⟩|⟨g,cap,cur,hv,_⟩
 ·exact ⟨none,0,by rw [hv,h0],⟨fun hn=>by omega⟩⟩
 ·have hrow:=h.row
  subst hv
  refine ⟨some ⟨g,0,none⟩,cap,rfl,⟨fun _=>⟨g,rfl,(hrow.lt g rfl).2,fun j hj=>?_⟩⟩⟩
  obtain ⟨ca,cc,hvs,_,hl⟩:=Rg (h.cells j hj) (fun x hx=>⟨(h.small j hj x hx).1,(h.small j hj x hx).2.1,Nat.le_trans (h.small j hj x hx).2.2 (by decide)⟩)
  refine ⟨ca,cc,?_,?_,?_,?_,?_,hl,hlen j hj⟩
  ·rw [hrow.cellAt _ (by omega)];exact Zc (i:=0) hj (by omega)
  ·rw [hrow.cellAt _ (by omega)];exact Zc (i:=1) hj (by omega)
  ·rw [hrow.cellAt _ (by omega)];exact Zc (i:=2) hj (by omega)
  ·rw [hrow.cellAt _ (by omega)];exact Zc (i:=3) hj (by omega)
  ·rw [hrow.cellAt _ (by omega),← hvs];exact Zc (i:=4) hj (by omega)
def DC:Prop:=∀ (file pre:List UInt8) (r:List KeyB) (trust:Bool) (S:SheetF),xe file pre r trust=(0,some S)→S.cols.length≤1000∧∀ j,j < S.cols.length→(qh pre r S j).cells.length≤1000
theorem GO:DC:=by
 intro file pre r trust S h
 obtain ⟨_,_,foot,parts,footer,hok⟩:=Ur h
 have hp:=hok.plan
 simp only [qP,Bool.and_eq_true,decide_eq_true_eq] at hp
 have hh:=hok.heads
 simp only [qc,Bool.and_eq_true,decide_eq_true_eq] at hh
 refine ⟨by omega,fun j hj=>?_⟩
 have hml:=qT hok.mods
 unfold qh
 split
 ·exact Nat.zero_le _
 ·split
  ·exact Nat.zero_le _
  ·rename_i cells hc
   have:=(IG pre r (jg S.cols j).kind (jg S.cols j).key (R:=S.rows) (C:=S.cols.length) (G:=S.plan.group.toNat) (P:=S.plan.page.toNat) (c:=j) hj (by omega) (by omega) (M:=S.mods) hml (i:=(qt S).length) (cells:=cells) (by
    show jI _ _ _ _ _ _ ((qt S).take _) (S.mods.take _)=_
    rw [List.take_length,← hml,List.take_length]
    exact hc)).1
   have:=hok.rows
   simp only
   omega
end
section
theorem Dw {j:JobB} {r r2:List KeyB} {trust:Bool} (h:GoodJ j r) (hs:(zu j r).length≤65000) (hr2:xH r2=true) (hsec:jw r2 j.plan.foot=true→ji r2 j.plan.foot=ji r j.plan.foot) :
  xe (zu j r) j.pre r2 trust=if jw r2 j.plan.foot=false∧¬ (j.plan.told=true∧trust=true) then (8,none) else (0,some (Js j r)):=by
 have hpre:=h.pre
 obtain ⟨_,_,hf1,hf2⟩:=h.sizes
 have hfoot:((j.plan.foot.toNat:Nat):Int)=j.plan.foot:=by omega
 have hsh:=Vh (TP h)
 have hfl:=h.foot.2.2
 unfold xe
 rw [if_neg (by omega),if_neg (by rw [hr2];decide),Ae h hs]
 show (if j.plan.told=true then _ else _)=_
 cases ht:j.plan.told with
 | true =>
  have e1:(Xy j r).footer=xY j r:=by show (if j.plan.told=true then xY j r else [])=_;rw [if_pos ht]
  rw [if_pos rfl,e1]
  rw [show xT (Xy j r).foot (Xy j r).parts (xY j r)=some (Js j r) from hsh]
  simp only [true_and]
  cases trust with
  | true=>simp
  | false =>
   rw [if_neg (by decide)]
   show (if jw r2 ((j.plan.foot.toNat:Nat):Int)=false then ((8:Int),(none:Option SheetF)) else _)=_
   rw [hfoot]
   cases hn:jw r2 j.plan.foot with
   | false=>simp
   | true =>
    rw [if_neg (by decide)]
    have e2:xp (ji r2 ((Xy j r).foot:Int)) (Xy j r).nonce (jR j.pre 83 0 0 0++xY j r) (Xy j r).body=some []:=by
     show xp (ji r2 ((j.plan.foot.toNat:Nat):Int)) (xo j.draw (xw j r).log.length) _ (xX (ji r j.plan.foot) (xo j.draw (xw j r).log.length) (if j.plan.told=true then jR j.pre 83 0 0 0++xY j r else jR j.pre 70 0 0 0) (if j.plan.told=true then [] else xY j r))=_
     rw [hfoot,hsec hn,if_pos ht,if_pos ht]
     exact Ze _ _ _ _ (by simp)
    rw [if_pos e2]
    simp
 | false =>
  rw [if_neg (by decide)]
  show (if jw r2 ((j.plan.foot.toNat:Nat):Int)=false then ((8:Int),(none:Option SheetF)) else _)=_
  rw [hfoot]
  cases hn:jw r2 j.plan.foot with
  | false=>simp
  | true =>
   rw [if_neg (by decide),if_neg (by simp)]
   have e2:xp (ji r2 ((Xy j r).foot:Int)) (Xy j r).nonce (jR j.pre 70 0 0 0) (Xy j r).body=some (xY j r):=by
    show xp (ji r2 ((j.plan.foot.toNat:Nat):Int)) (xo j.draw (xw j r).log.length) _ (xX (ji r j.plan.foot) (xo j.draw (xw j r).log.length) (if j.plan.told=true then jR j.pre 83 0 0 0++xY j r else jR j.pre 70 0 0 0) (if j.plan.told=true then [] else xY j r))=_
    rw [hfoot,hsec hn,if_neg (by rw [ht];decide),if_neg (by rw [ht];decide)]
    exact Ze _ _ _ _ (by omega)
   rw [e2]
   show (match xT j.plan.foot.toNat (EV j r) (xY j r) with|none=>((9:Int),(none:Option SheetF))|some S=>(0,some S))=_
   rw [hsh]
theorem Mj {j:JobB} {r r2:List KeyB} {i:Nat} (h:GoodJ j r) (hi:i < j.table.length) (hk:(j.table[i]).key=0∨(jw r2 (j.table[i]).key=true→ji r2 (j.table[i]).key=ji r (j.table[i]).key)) :
  qh j.pre r2 (Js j r) i=if 0 < (j.table[i]).key∧jw r2 (j.table[i]).key=false then ⟨(j.table[i]).name,(j.table[i]).kind,(j.table[i]).key,1,[]⟩ else ⟨(j.table[i]).name,(j.table[i]).kind,(j.table[i]).key,0,(j.table[i]).cells⟩:=by
 have hca:jg (Js j r).cols i=Ad (j.table[i]):=by
  show jg (zc j.table) i=_
  rw [Vl,xy hi]
 have hk9:=(h.table.head i hi).2.2
 unfold qh
 rw [hca]
 show (if 0 < (j.table[i]).key∧jw r2 (j.table[i]).key=false then _ else _)=_
 by_cases hl:0 < (j.table[i]).key∧jw r2 (j.table[i]).key=false
 ·rw [if_pos hl,if_pos hl]
  rfl
 ·rw [if_neg hl,if_neg hl]
  have hk2:(j.table[i]).key=0∨ji r2 (j.table[i]).key=ji r (j.table[i]).key:=by
   rcases hk with hk|hk
   ·exact .inl hk
   ·by_cases h0:(j.table[i]).key=0
    ·exact .inl h0
    ·refine .inr (hk ?_)
     cases hn:jw r2 (j.table[i]).key with
     | true=>rfl
     | false=>exact absurd ⟨by omega,hn⟩ hl
  have hc:=DO h hi hk2
  show (match jI j.pre r2 (j.table[i]).kind (j.table[i]).key i (some []) (qt (Js j r)) (Js j r).mods with|none=>_|some cells=>_)=_
  rw [hc]
  rfl
end
section
theorem Vd (raw:List Int) (pre:List UInt8) (c:Int) (hr:∀ x ∈ raw,Xl x):(zu (qm raw pre) (jV c 0)).length≤65000:=by
 have h:=JA raw pre c hr
 refine PI h ?_ ?_ ?_
 ·show (JU raw (Jg raw)).length≤4
  rw [Xw]
  exact (ZW raw).2
 ·have h1:qa (qm raw pre).table=((qm raw pre).table[0]'(by have:=h.table.few.1;omega)).cells.length:=NM h.table.few.1
  have h2:=ZP raw
  have e:(qm raw pre).table[0]'(by have:=h.table.few.1;omega)=Zg raw 0 (qy raw):=ZF raw (Jg raw) 0 _
  rw [h1,e]
  simp only [Zg,List.length_map,List.length_range]
  omega
 ·show (1+qi (atB raw 4) 6).toNat≤6
  have:=qB (atB raw 4) 6 (by decide)
  omega
theorem Mt (raw:List Int) (pre:List UInt8) (c without:Int) (trust:Bool) (hr:∀ x ∈ raw,Xl x) :
  xe (zu (qm raw pre) (jV c 0)) (qm raw pre).pre (jV c without) trust=if qI without 5=true∧¬ ((qm raw pre).plan.told=true∧trust=true) then (8,none) else (0,some (Js (qm raw pre) (jV c 0))):=by
 have hn:jw (jV c without) (qm raw pre).plan.foot=!qI without 5:=(XL c without).2.1 5 (by decide) (by decide)
 rw [Dw (JA raw pre c hr) (Vd raw pre c hr) (XL c without).1 (fun h=>Yo c without (show (1:Int)≤(qm raw pre).plan.foot from (by decide:(1:Int)≤5)) (show (qm raw pre).plan.foot≤5 from (by decide:(5:Int)≤5)) h),hn]
 cases qI without 5<;>simp
theorem RD (raw:List Int) (pre:List UInt8) (c without:Int) (hr:∀ x ∈ raw,Xl x) {i:Nat} (hi:i < (qm raw pre).table.length) :
  qh (qm raw pre).pre (jV c without) (Js (qm raw pre) (jV c 0)) i=if 0 < ((qm raw pre).table[i]).key∧qI without ((qm raw pre).table[i]).key.toNat=true then ⟨((qm raw pre).table[i]).name,((qm raw pre).table[i]).kind,((qm raw pre).table[i]).key,1,[]⟩ else ⟨((qm raw pre).table[i]).name,((qm raw pre).table[i]).kind,((qm raw pre).table[i]).key,0,((qm raw pre).table[i]).cells⟩:=by
 have h:=JA raw pre c hr
 have hk:0≤((qm raw pre).table[i]).key∧((qm raw pre).table[i]).key≤4:=by
  have e:(qm raw pre).table[i]=Zg raw i (qy raw):=ZF raw (Jg raw) i hi
  rw [e]
  have:=qB (atB raw (10+i)) 5 (by decide)
  simp only [Zg]
  omega
 rw [Mj h hi (by
  by_cases h0:((qm raw pre).table[i]).key=0
  ·exact .inl h0
  ·exact .inr (fun hn=>Yo c without (by omega) (by omega) hn))]
 by_cases h0:0 < ((qm raw pre).table[i]).key
 ·have hn:=(XL c without).2.1 ((qm raw pre).table[i]).key (by omega) (by omega)
  rw [hn]
  cases qI without ((qm raw pre).table[i]).key.toNat<;>simp
 ·rw [if_neg (fun h=>h0 h.1),if_neg (fun h=>h0 h.1)]
end
section
open Go.RowKit
abbrev jobC (tv:Value) (j:JobB):Array Value:=#[tv,.int .i64 j.plan.group,.int .i64 j.plan.page,.int .i64 j.plan.foot,.bool j.plan.told,strB j.pre,.int .i64 j.draw]
theorem Zq {w:World} {base n tc:Nat} {ta:Option Addr} {P:List (ColB × Value)} {j:JobB} {r:List KeyB} (h:RowsT w base (.slice ta n tc) P) (hP:P.map Prod.fst=j.table) (hg:GoodJ j r):LiesJ w ta tc j:=by
 obtain ⟨a,cap,e,hl⟩:=MJ h hP hg
 simp only [Value.slice.injEq] at e
 obtain ⟨rfl,_,rfl⟩:=e
 exact hl
abbrev Box7 (p:Nat) (tv:Value) (j:JobB) (w:World):Prop :=
 w.cell? ⟨p,0,none⟩=some tv∧w.cell? ⟨p,1,none⟩=some (.int .i64 j.plan.group)∧w.cell? ⟨p,2,none⟩=some (.int .i64 j.plan.page)∧w.cell? ⟨p,3,none⟩=some (.int .i64 j.plan.foot)∧w.cell? ⟨p,4,none⟩=some (.bool j.plan.told)∧w.cell? ⟨p,5,none⟩=some (strB j.pre)∧w.cell? ⟨p,6,none⟩=some (.int .i64 j.draw)
theorem Kw {p:Nat} {tv:Value} {j:JobB} {w w':World} (h:Box7 p tv j w) (hp:p < w.heap.size) (hb:Below w.heap.size w w'):Box7 p tv j w':=by
 obtain ⟨h0,h1,h2,h3,h4,h5,h6⟩:=h
 exact ⟨(hb.cell (p:=⟨p,_,none⟩) hp).trans h0,(hb.cell (p:=⟨p,_,none⟩) hp).trans h1,(hb.cell (p:=⟨p,_,none⟩) hp).trans h2,(hb.cell (p:=⟨p,_,none⟩) hp).trans h3,(hb.cell (p:=⟨p,_,none⟩) hp).trans h4,(hb.cell (p:=⟨p,_,none⟩) hp).trans h5,(hb.cell (p:=⟨p,_,none⟩) hp).trans h6⟩
end
end Go.Proofs.YthhpbhpfagoapabGreat
