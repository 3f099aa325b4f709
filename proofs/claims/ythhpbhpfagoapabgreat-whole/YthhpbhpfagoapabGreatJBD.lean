import Derived.Test.YthhpbhpfagoapabGreatJAY
import Derived.BigQuiet
import Derived.Deep.QuietTactic
import Derived.WalkSmall
import Derived.OwnWalk
import Derived.Test.YthhpbhpfagoapabGreatJBI
namespace Go.Proofs.YthhpbhpfagoapabGreat
set_option linter.unusedVariables false
set_option linter.unusedSimpArgs false
set_option maxRecDepth 100000
set_option maxHeartbeats 16000000
section
open Go.RowKit
def ZP (b:UInt8):Bool:=decide (97≤b.toNat) && decide (b.toNat≤122)
theorem TM (s:List UInt8):zG s=(s.all ZP && (decide (1≤s.length) && decide (s.length≤8))):=rfl
theorem MR {t:List ColB} {k:Nat} (hk:k < t.length) (h:(QL t[k] && !zf (t.take k) (t[k]).name)=false):jX t=false:=by
 cases hh:jX t with
 | false=>rfl
 | true =>
  simp only [jX,Bool.and_eq_true] at hh
  obtain ⟨h1,h2⟩:=JF hh.1 (Nat.le_refl _) k hk
  rw [h1,h2] at h
  cases h
theorem EW {t:List ColB} {k:Nat} (hk:k < t.length) (h:Jl t k=true):Jl t (k+1)=(QL t[k] && !zf (t.take k) (t[k]).name):=by
 simp only [Jl,h,Bool.true_and]
 rw [List.getElem?_eq_getElem hk]
theorem IH {t:List ColB} {k m:Nat} (hm:m < t.length) (hk:m < k) (s:List UInt8):zf ((t.take k).take (m+1)) s=(zf ((t.take k).take m) s || (t[m]).name == s):=by
 have hl:m < (t.take k).length:=by rw [List.length_take];omega
 rw [List.take_succ_eq_append_getElem hl]
 simp [zf]
end
section
def Vf:List UInt8→Nat
 | a :: b :: _=>a.toNat+256*b.toNat
 | _=>0
def QN (st:Option (List UInt8)):Nat × Option (List UInt8):=(Vf (xU 2 st).1,(xU 2 st).2)
def Jd (st:Option (List UInt8)):(List UInt8 × List UInt8) × Option (List UInt8) :=
 (((xU 4 (QN st).2).1,(xU ((QN st).1:Int) (xU 4 (QN st).2).2).1),if (QN st).1 < 2 then none else (xU ((QN st).1:Int) (xU 4 (QN st).2).2).2)
theorem UR (n:Int):xU n none=([],none):=rfl
theorem Bm (l:List UInt8):Vf l≤65535:=by
 match l with
 | []=>simp [Vf]
 | [a]=>simp [Vf]
 | a :: b :: _=>have:=a.toNat_lt;have:=b.toNat_lt;simp only [Vf];omega
theorem Eo (a b:UInt8):qz ((a.toNat+256*b.toNat:Nat):Int)=[a,b]:=by
 have ha:=a.toNat_lt
 have hb:=b.toNat_lt
 unfold qz
 simp only [List.cons.injEq,and_true]
 constructor
 ·apply UInt8.toNat_inj.1;simp only [UInt8.toNat_ofNat'];omega
 ·apply UInt8.toNat_inj.1;simp only [UInt8.toNat_ofNat'];omega
theorem YT (n:Nat) (h:n≤65535) (r:List UInt8):Vf (qz (n:Int)++r)=n:=by
 unfold qz
 simp only [List.cons_append,List.nil_append,Vf,UInt8.toNat_ofNat']
 omega
theorem Zu {n:Nat} {l:List UInt8} {t r:List UInt8} (h:xU (n:Int) (some l)=(t,some r)):l=t++r∧t.length=n:=by
 by_cases hn:n≤l.length
 ·rw [UG (by omega) (by omega)] at h
  simp only [Prod.mk.injEq,Option.some.injEq,Int.toNat_natCast] at h
  obtain ⟨rfl,rfl⟩:=h
  exact ⟨(List.take_append_drop ..).symm,by rw [List.length_take];omega⟩
 ·rw [Lz (.inr (by omega))] at h
  simp at h
theorem Gy {l r:List UInt8} {n:Nat} (h:QN (some l)=(n,some r)):l=qz (n:Int)++r∧n≤65535:=by
 unfold QN at h
 simp only [Prod.mk.injEq] at h
 obtain ⟨h1,h2⟩:=h
 have h3:xU ((2:Nat):Int) (some l)=((xU 2 (some l)).1,some r):=by
  show xU 2 (some l)=_
  rw [← h2]
 obtain ⟨h4,h5⟩:=Zu h3
 generalize (xU 2 (some l)).1=t at *
 match t,h5 with
 | [a,b],_ =>
  simp only [Vf] at h1
  subst h1
  rw [Eo]
  exact ⟨h4,by have:=a.toNat_lt;have:=b.toNat_lt;omega⟩
theorem Gr (n:Nat) (h:n≤65535) (r:List UInt8):QN (some (qz (n:Int)++r))=(n,some r):=by
 unfold QN
 have:=QU (qz (n:Int)) r
 rw [jx] at this
 rw [show xU 2 (some (qz (n:Int)++r))=(qz (n:Int),some r) from this]
 have h2:=YT n h []
 rw [List.append_nil] at h2
 simp [h2]
theorem VW:Jd none=(([],[]),none):=rfl
theorem KG {l r:List UInt8} {x:List UInt8 × List UInt8} (h:Jd (some l)=(x,some r)):l=qz (x.2.length:Int)++(x.1++x.2)++r∧x.1.length=4∧2≤x.2.length∧x.2.length≤65535:=by
 unfold Jd at h
 simp only [Prod.mk.injEq] at h
 obtain ⟨h1,h2⟩:=h
 split at h2
 ·cases h2
 ·rename_i hn
  cases hq:(QN (some l)).2 with
  | none=>rw [hq] at h2;simp [UR] at h2
  | some l1 =>
   obtain ⟨h3,h4⟩:=Gy (l:=l) (r:=l1) (n:=(QN (some l)).1) (by rw [← hq])
   rw [hq] at h1 h2
   cases hq2:(xU 4 (some l1)).2 with
   | none=>rw [hq2] at h2;simp [UR] at h2
   | some l2 =>
    obtain ⟨h5,h6⟩:=Zu (n:=4) (l:=l1) (t:=(xU 4 (some l1)).1) (r:=l2) (by show xU 4 (some l1)=_;rw [← hq2])
    rw [hq2] at h1 h2
    obtain ⟨h7,h8⟩:=Zu (n:=(QN (some l)).1) (l:=l2) (t:=(xU ((QN (some l)).1:Int) (some l2)).1) (r:=r) (by rw [← h2])
    subst h1
    simp only
    rw [h8]
    refine ⟨?_,h6,by omega,h4⟩
    rw [List.append_assoc,List.append_assoc,← h7,← h5]
    exact h3
theorem Kw {x:List UInt8 × List UInt8} (h1:x.1.length=4) (h2:2≤x.2.length) (h3:x.2.length≤65535) (r:List UInt8):Jd (some (qz (x.2.length:Int)++(x.1++x.2)++r))=(x,some r):=by
 unfold Jd
 rw [List.append_assoc,List.append_assoc,Gr _ h3]
 have e1:xU 4 (some (x.1++(x.2++r)))=(x.1,some (x.2++r)):=by
  have:=QU x.1 (x.2++r)
  rw [h1] at this
  exact this
 simp only [e1,QU]
 rw [if_neg (by omega)]
def Af (file:List UInt8):Option FormF :=
 if 65000 < file.length∨file.length < 8∨file.take 2≠[67,70]∨file.drop (file.length - 2)≠[67,70]∨(file.getD 2 0≠69∧file.getD 2 0≠79)∨(file.getD 3 0).toNat < 1∨9 < (file.getD 3 0).toNat then none
 else if file.length < 8+Vf (file.drop (file.length - 4)) then none
 else
  let from_:=file.length - 4 - Vf (file.drop (file.length - 4))
  let part:=(file.drop from_).take (file.length - 4 - from_)
  let told:=decide (file.getD 2 0=79)
  let a:=if told=true then xU ((QN (some part)).1:Int) (QN (some part)).2 else ([],some part)
  let b:=Jd a.2
  if b.2=some [] then some ⟨told,(file.getD 3 0).toNat,(file.drop 4).take (from_ - 4),a.1,b.1.1,b.1.2⟩ else none
theorem LO {file:List UInt8} {a b:Nat} (ha:4≤a) (hab:a≤b) (hb:b+4=file.length) (h1:file.take 2=[67,70]) (h2:file.drop (file.length - 2)=[67,70]) :
  file=([67,70]++[file.getD 2 0]++[file.getD 3 0])++((file.drop 4).take (a - 4)++((file.drop a).take (b - a)++((file.drop b).take 2++[67,70]))):=by
 have e2:(file.drop b).drop 2=[67,70]:=by rw [List.drop_drop,← h2];congr 1;omega
 have e3:file.drop b=(file.drop b).take 2++[67,70]:=by rw [← e2,List.take_append_drop]
 have e4:file.drop a=(file.drop a).take (b - a)++file.drop b:=by
  conv=>lhs;rw [← List.take_append_drop (b - a) (file.drop a)]
  rw [List.drop_drop]
  congr 2
  omega
 have e5:file.drop 4=(file.drop 4).take (a - 4)++file.drop a:=by
  conv=>lhs;rw [← List.take_append_drop (a - 4) (file.drop 4)]
  rw [List.drop_drop]
  congr 2
  omega
 rw [← e3,← e4,← e5]
 match file,h1 with
 | x :: y :: z :: u :: l,h1 =>
  simp only [List.take_succ_cons,List.take_zero,List.cons.injEq,and_true] at h1
  obtain ⟨rfl,rfl⟩:=h1
  simp
 | [],h1=>simp at h1
 | [x],h1=>simp at h1
 | [x,y],_=>exfalso;have:([x,y]:List UInt8).length=2:=rfl;omega
 | [x,y,z],_=>exfalso;have:([x,y,z]:List UInt8).length=3:=rfl;omega
theorem IW (file:List UInt8) (o:Option FormF) (hS0:∀ f,FormOk f→xk f=file→o=some f) (hN0:(∀ f,FormOk f→xk f≠file)→o=none):Af file=o:=by
 cases hf:Af file with
 | some f =>
  unfold Af at hf
  split at hf
  ·cases hf
  rename_i hc
  split at hf
  ·cases hf
  rename_i hl
  simp only [not_or,Decidable.not_and_iff_or_not,Decidable.not_not,ne_eq] at hc
  obtain ⟨c1,c2,c3,c4,c5,c6,c7⟩:=hc
  have hn:=Bm (file.drop (file.length - 4))
  have hcut:=LO (file:=file) (a:=file.length - 4 - Vf (file.drop (file.length - 4))) (b:=file.length - 4) (by omega) (by omega) (by omega) c3 c4
  simp only at hf
  have hend:(file.drop (file.length - 4)).take 2=qz ((Vf (file.drop (file.length - 4)):Nat):Int):=by
   have hlen:(file.drop (file.length - 4)).length=4:=by rw [List.length_drop];omega
   match hd:file.drop (file.length - 4),hlen with
   | [x,y,z,u],_=>simp only [List.take_succ_cons,List.take_zero,Vf];rw [Eo]
  rw [hend] at hcut
  generalize hN:Vf (file.drop (file.length - 4))=N at *
  generalize hF:file.length - 4 - N=F at *
  have hFN:file.length - 4 - F=N:=by omega
  rw [hFN] at hf hcut
  have hpl:((file.drop F).take N).length=N:=by rw [List.length_take,List.length_drop];omega
  generalize hP:(file.drop F).take N=part at *
  by_cases hb:(Jd (if decide (file.getD 2 0=79)=true then xU ((QN (some part)).1:Int) (QN (some part)).2 else ([],some part)).2).2=some []
  ·rw [if_pos hb] at hf
   simp only [Option.some.injEq] at hf
   subst hf
   symm
   have key:∀ (told:Bool) (footer:List UInt8) (x:List UInt8 × List UInt8),told=decide (file.getD 2 0=79)→(told=false→footer=[])→part=(if told=true then qz (footer.length:Int)++footer else [])++(qz (x.2.length:Int)++(x.1++x.2))→x.1.length=4→2≤x.2.length →
     FormOk ⟨told,(file.getD 3 0).toNat,(file.drop 4).take (F - 4),footer,x.1,x.2⟩∧xk ⟨told,(file.getD 3 0).toNat,(file.drop 4).take (F - 4),footer,x.1,x.2⟩=file:=by
    intro told footer x ht hno hpart hx1 hx2
    have hfile:xk ⟨told,(file.getD 3 0).toNat,(file.drop 4).take (F - 4),footer,x.1,x.2⟩=file:=by
     refine Eq.trans ?_ hcut.symm
     unfold xk qp
     simp only
     rw [← hpart]
     have e1:(if told=true then (79:UInt8) else 69)=file.getD 2 0:=by
      rw [ht]
      by_cases h79:file.getD 2 0=79
      ·rw [h79];rfl
      ·rw [decide_eq_false h79]
       have:file.getD 2 0=69:=by
        rcases c5 with h|h
        ·exact h
        ·exact absurd h h79
       rw [this];rfl
     have e2:byB (((file.getD 3 0).toNat:Nat):Int)=file.getD 3 0:=by
      apply UInt8.toNat_inj.1
      rw [JR _ (by omega)]
     rw [e1,e2,hpl]
    exact ⟨⟨hx1,hx2,⟨by simp only;omega,by simp only;omega⟩,by rw [hfile];omega,hno⟩,hfile⟩
   by_cases h79:file.getD 2 0=79
   ·have ht:decide (file.getD 2 0=79)=true:=decide_eq_true h79
    rw [ht] at hb ⊢
    simp only [if_true] at hb ⊢
    cases hq:(QN (some part)).2 with
    | none=>rw [hq,UR,VW] at hb;simp at hb
    | some l1 =>
     obtain ⟨h3,h4⟩:=Gy (l:=part) (r:=l1) (n:=(QN (some part)).1) (by rw [← hq])
     rw [hq] at hb
     generalize hn0:(QN (some part)).1=n0 at *
     cases hq2:(xU (n0:Int) (some l1)).2 with
     | none=>rw [hq2,VW] at hb;simp at hb
     | some l2 =>
      obtain ⟨h5,h6⟩:=Zu (n:=n0) (l:=l1) (t:=(xU (n0:Int) (some l1)).1) (r:=l2) (by rw [← hq2])
      rw [hq2] at hb
      try rw [hq2]
      generalize (xU (n0:Int) (some l1)).1=T at *
      obtain ⟨h7,h8,h9,h10⟩:=KG (l:=l2) (r:=[]) (x:=(Jd (some l2)).1) (by rw [← hb])
      obtain ⟨k1,k2⟩:=key true T (Jd (some l2)).1 ht.symm (fun h=>by cases h) (by
       rw [if_pos rfl,h6,h3,h5]
       rw [List.append_nil] at h7
       rw [← h7,List.append_assoc]
       ) h8 h9
      exact hS0 _ k1 k2
   ·have ht:decide (file.getD 2 0=79)=false:=decide_eq_false h79
    rw [ht] at hb ⊢
    simp only [Bool.false_eq_true,if_false] at hb ⊢
    obtain ⟨h7,h8,h9,h10⟩:=KG (l:=part) (r:=[]) (x:=(Jd (some part)).1) (by rw [← hb])
    obtain ⟨k1,k2⟩:=key false [] (Jd (some part)).1 ht.symm (fun _=>rfl) (by
     rw [if_neg (by decide),List.nil_append]
     rw [List.append_nil] at h7
     exact h7) h8 h9
    exact hS0 _ k1 k2
  ·rw [if_neg hb] at hf
   cases hf
 | none =>
  symm
  apply hN0
  intro f hok e
  obtain ⟨l1,l2,l3⟩:=hok.lens
  have hlen:file.length=4+(f.parts.length+((qp f).length+4)):=by
   rw [← e]
   simp only [xk,List.length_append,List.length_cons,List.length_nil,jx]
  have hsh:=hok.short
  rw [e] at hsh
  have hd:file.drop (file.length - 4)=qz ((qp f).length:Int)++[67,70]:=by
   rw [hlen,show 4+(f.parts.length+((qp f).length+4)) - 4=4+(f.parts.length+(qp f).length) by omega,← e]
   unfold xk
   rw [← List.drop_drop,List.drop_left' (by simp),← List.append_assoc,List.drop_left' (by simp)]
  have hN:Vf (file.drop (file.length - 4))=(qp f).length:=by rw [hd];exact YT _ (by omega) _
  have hF:file.length - 4 - (qp f).length=4+f.parts.length:=by omega
  have hpart:(file.drop (4+f.parts.length)).take (file.length - 4 - (4+f.parts.length))=qp f:=by
   rw [show file.length - 4 - (4+f.parts.length)=(qp f).length by omega,← e]
   unfold xk
   rw [← List.drop_drop,List.drop_left' (by simp),List.drop_left' rfl,List.take_left' rfl]
  have hparts:(file.drop 4).take (4+f.parts.length - 4)=f.parts:=by
   rw [← e]
   unfold xk
   rw [List.drop_left' (by simp),List.take_left' (by omega)]
  have h2:file.getD 2 0=if f.told=true then 79 else 69:=by rw [← e];simp [xk]
  have h3:(file.getD 3 0).toNat=f.foot:=by
   have:file.getD 3 0=byB (f.foot:Int):=by rw [← e];simp [xk]
   rw [this]
   exact JR _ (by have:=hok.foot;omega)
  have ht2:file.take 2=[67,70]:=by rw [← e];simp [xk]
  have hd2:file.drop (file.length - 2)=[67,70]:=by
   rw [show file.length - 2=(file.length - 4)+2 by omega,← List.drop_drop,hd]
   rfl
  have hft:=hok.foot
  unfold Af at hf
  rw [if_neg,if_neg] at hf
  ·simp only [hN,hF,hpart,hparts] at hf
   cases htold:f.told with
   | true =>
    rw [htold,if_pos rfl] at h2
    simp only [h2,decide_true,if_true] at hf
    have hfp:qp f=qz (f.footer.length:Int)++(f.footer++(qz (f.body.length:Int)++(f.nonce++f.body))):=by
     unfold qp
     rw [htold,if_pos rfl,List.append_assoc]
    have hs:=Kw (x:=(f.nonce,f.body)) hok.nonce hok.body (by simp only;omega) []
    simp only [List.append_nil] at hs
    rw [hfp,Gr _ (by omega),QU,hs] at hf
    simp at hf
   | false =>
    rw [htold,if_neg (by decide)] at h2
    simp only [h2,show decide ((69:UInt8)=79)=false from by decide,Bool.false_eq_true,if_false] at hf
    have hfp:qp f=qz (f.body.length:Int)++(f.nonce++f.body):=by
     unfold qp
     rw [htold,if_neg (by decide),List.nil_append]
    have hs:=Kw (x:=(f.nonce,f.body)) hok.nonce hok.body (by simp only;omega) []
    simp only [List.append_nil] at hs
    rw [hfp,hs] at hf
    simp at hf
  ·rw [hN];omega
  ·rw [h3,ht2,hd2,h2]
   rintro (h|h|h|h|h|h|h)
   ·omega
   ·omega
   ·exact h rfl
   ·exact h rfl
   ·revert h;cases f.told<;>decide
   ·omega
   ·omega
end
section
def KU (st:Option (List UInt8)):Nat→List ColB × Option (List UInt8)
 | 0=>([],st)
 | i+1=>((KU st i).1++[⟨(xR 8 (KU st i).2).1,((qX 1 (xR 8 (KU st i).2).2).1:Nat),((qX 9 (qX 1 (xR 8 (KU st i).2).2).2).1:Nat),[]⟩],(qX 9 (qX 1 (xR 8 (KU st i).2).2).2).2)
theorem MK (st:Option (List UInt8)) (i:Nat):∀ c ∈ (KU st i).1,c.cells=[]:=by
 induction i with
 | zero=>intro c hc;simp [KU] at hc
 | succ i ih =>
  intro c hc
  simp only [KU,List.mem_append,List.mem_singleton] at hc
  rcases hc with hc|rfl
  ·exact ih c hc
  ·rfl
theorem CJ {t:List ColB} (r:List UInt8) (h:∀ c ∈ t,c.name.length≤8∧(c.kind=0∨c.kind=1)∧0≤c.key∧c.key≤9∧c.cells=[]):∀ i,i≤t.length→KU (some (t.flatMap jZ++r)) i=(t.take i,some ((t.drop i).flatMap jZ++r)):=by
 intro i
 induction i with
 | zero=>intro _;simp [KU]
 | succ i ih =>
  intro hi
  have hlt:i < t.length:=by omega
  obtain ⟨h1,h2,h3,h4,h5⟩:=h t[i] (List.getElem_mem hlt)
  simp only [KU,ih (by omega)]
  rw [List.drop_eq_getElem_cons hlt,List.flatMap_cons]
  simp only [jZ,List.append_assoc]
  rw [CP 8 _ _ h1 (by decide)]
  simp only
  rw [Jx 1 _ _ (by omega) (by decide)]
  simp only
  rw [Jx 9 _ _ (by omega) (by decide)]
  simp only
  rw [List.take_succ_eq_append_getElem hlt]
  congr 3
  generalize t[i]=c at *
  cases c
  simp only [ColB.mk.injEq,true_and] at *
  refine ⟨by omega,by omega,h5.symm⟩
def Ye (key:Int) (st:Option (List UInt8)):ModF × Option (List UInt8) :=
 if key=0 then (⟨(xU ((QN st).1:Int) (QN st).2).1,[],[]⟩,(xU ((QN st).1:Int) (QN st).2).2)
 else (⟨[],(Jd st).1.1,(Jd st).1.2⟩,(Jd st).2)
theorem Tp (key:Int):Ye key none=(⟨[],[],[]⟩,none):=by
 unfold Ye
 split<;>rfl
theorem PO {key:Int} {l r:List UInt8} {m:ModF} (h:Ye key (some l)=(m,some r)):ze key m∧l=qq key m++r:=by
 unfold Ye at h
 unfold ze qq
 by_cases hk:key=0
 ·rw [if_pos hk] at h
  rw [if_pos hk]
  simp only [Prod.mk.injEq] at h
  obtain ⟨h1,h2⟩:=h
  cases hq:(QN (some l)).2 with
  | none=>rw [hq] at h2;simp [UR] at h2
  | some l1 =>
   obtain ⟨h3,h4⟩:=Gy (l:=l) (r:=l1) (n:=(QN (some l)).1) (by rw [← hq])
   rw [hq] at h1 h2
   obtain ⟨h5,h6⟩:=Zu (n:=(QN (some l)).1) (l:=l1) (t:=(xU ((QN (some l)).1:Int) (some l1)).1) (r:=r) (by rw [← h2])
   subst h1
   refine ⟨.inl ⟨hk,rfl,rfl,by simp only [h6];exact h4⟩,?_⟩
   simp only [h6]
   rw [List.append_assoc,← h5]
   exact h3
 ·rw [if_neg hk] at h
  rw [if_neg hk]
  simp only [Prod.mk.injEq] at h
  obtain ⟨h1,h2⟩:=h
  obtain ⟨h7,h8,h9,h10⟩:=KG (l:=l) (r:=r) (x:=(Jd (some l)).1) (by rw [← h2])
  subst h1
  exact ⟨.inr ⟨hk,rfl,h8,h9,h10⟩,h7⟩
theorem TQ {key:Int} {m:ModF} (h:ze key m) (r:List UInt8):Ye key (some (qq key m++r))=(m,some r):=by
 unfold Ye qq
 rcases h with ⟨hk,h1,h2,h3⟩|⟨hk,h1,h2,h3,h4⟩
 ·rw [if_pos hk,if_pos hk,List.append_assoc,Gr _ h3,QU]
  cases m;simp_all
 ·rw [if_neg hk,if_neg hk,Kw (x:=(m.nonce,m.body)) h2 h3 h4]
  cases m;simp_all
def Rs (t:List ColB) (q:List ModF × Option (List UInt8)) (s:SpotB):List ModF × Option (List UInt8):=(q.1++[(Ye (jf t s.c).key q.2).1],(Ye (jf t s.c).key q.2).2)
def BT (t:List ColB) (st:Option (List UInt8)) (L:List SpotB):List ModF × Option (List UInt8):=L.foldl (Rs t) ([],st)
theorem Cn (t:List ColB):∀ (L:List SpotB) (M:List ModF),(L.foldl (Rs t) (M,none)).2=none:=by
 intro L
 induction L with
 | nil=>intro M;rfl
 | cons s L ih=>intro M;simp only [List.foldl_cons,Rs,Tp];exact ih _
theorem MW (t:List ColB):∀ (L:List SpotB) (M0:List ModF) (l r:List UInt8) (M:List ModF),L.foldl (Rs t) (M0,some l)=(M,some r)→∃ M1,M=M0++M1∧ModsOk t L M1∧l=jn t L M1++r:=by
 intro L
 induction L with
 | nil=>intro M0 l r M h;simp only [List.foldl_nil,Prod.mk.injEq,Option.some.injEq] at h;exact ⟨[],by rw [← h.1];simp,.nil,by rw [h.2];rfl⟩
 | cons s L ih =>
  intro M0 l r M h
  simp only [List.foldl_cons,Rs] at h
  cases hq:(Ye (jf t s.c).key (some l)).2 with
  | none =>
   rw [hq] at h
   have:=Cn t L (M0++[(Ye (jf t s.c).key (some l)).1])
   rw [h] at this
   cases this
  | some l1 =>
   rw [hq] at h
   obtain ⟨h1,h2⟩:=PO (key:=(jf t s.c).key) (l:=l) (r:=l1) (m:=(Ye (jf t s.c).key (some l)).1) (by rw [← hq])
   obtain ⟨M1,h3,h4,h5⟩:=ih _ _ _ _ h
   exact ⟨_ :: M1,by rw [h3,List.append_assoc];rfl,.cons h1 h4,by
    simp only [jn,List.append_assoc]
    rw [← h5]
    exact h2⟩
theorem CI {t:List ColB} {L:List SpotB} {M:List ModF} (h:ModsOk t L M):∀ (M0:List ModF) (r:List UInt8),L.foldl (Rs t) (M0,some (jn t L M++r))=(M0++M,some r):=by
 induction h using ModsOk.ind with
 | nil=>intro M0 r;simp [jn]
 | cons hm _ ih =>
  intro M0 r
  simp only [List.foldl_cons,Rs,jn,List.append_assoc]
  rw [TQ hm]
  simp only
  rw [ih]
  simp
def UV (footer:List UInt8):PlanB :=
 ⟨((qX 60 (qX 60 (some footer)).2).1:Nat),((qX 60 (qX 60 (qX 60 (some footer)).2).2).1:Nat),((qX 9 (qX 60 (qX 60 (qX 60 (some footer)).2).2).2).1:Nat),false⟩
def Yd (footer:List UInt8):Nat:=(qX 60 (some footer)).1
def KR (footer:List UInt8):List ColB × Option (List UInt8) :=
 KU (qX 6 (qX 9 (qX 60 (qX 60 (qX 60 (some footer)).2).2).2).2).2 (qX 6 (qX 9 (qX 60 (qX 60 (qX 60 (some footer)).2).2).2).2).1
def Mi (foot:Nat) (footer:List UInt8):Bool:=(!(KR footer).2.isNone && (qM (UV footer) && (jX (KR footer).1 && decide ((UV footer).foot=(foot:Int)))))
def Gj (footer:List UInt8):List SpotB:=qm (Yd footer) (KR footer).1.length (UV footer).group.toNat (UV footer).page.toNat
def NV (parts footer:List UInt8):List ModF × Option (List UInt8):=BT (KR footer).1 (some parts) (Gj footer)
def LM (foot:Nat) (parts footer:List UInt8):Option SheetF :=
 if Mi foot footer=true then
  if (NV parts footer).2=some []∧qn (Yd footer) (UV footer) (KR footer).1 (jJ (KR footer).1 4 true (Gj footer) (NV parts footer).1)=footer then some ⟨Yd footer,UV footer,(KR footer).1,(NV parts footer).1⟩ else none
 else none
theorem Th (foot:Nat) (parts footer:List UInt8) (o:Option SheetF) (hS0:∀ S,SheetOk foot parts footer S→o=some S) (hN0:(∀ S,¬ SheetOk foot parts footer S)→o=none):LM foot parts footer=o:=by
 cases hl:LM foot parts footer with
 | some S =>
  symm
  apply hS0
  unfold LM at hl
  split at hl
  ·rename_i hh
   split at hl
   ·rename_i hm
    cases hl
    obtain ⟨h1,h2⟩:=hm
    simp only [Mi,Bool.and_eq_true,decide_eq_true_eq] at hh
    obtain ⟨_,hp,hc,hf⟩:=hh
    obtain ⟨M1,e1,e2,e3⟩:=MW (KR footer).1 (Gj footer) [] parts [] (NV parts footer).1 (by
     show NV parts footer=_
     rw [← h1])
    simp only [List.nil_append] at e1
    rw [e1] at h2 ⊢
    rw [List.append_nil] at e3
    have hR:Yd footer≤60:=Bz _ _
    have hB:∀ c ∈ (KR footer).1,c.cells=[]:=MK _ _
    have hT:(UV footer).told=false:=rfl
    unfold Gj at *
    generalize Yd footer=R at *
    generalize (KR footer).1=C at *
    generalize UV footer=p at *
    exact ⟨hR,hp,hT,hf,hc,hB,e2,e3,h2.symm⟩
   ·cases hl
  ·cases hl
 | none =>
  symm
  apply hN0
  intro S hS
  have hf:=hS.footer
  have hp:=hS.plan
  have hpl:=hS.plan
  simp only [qM,Bool.and_eq_true,decide_eq_true_eq] at hpl
  have hcs:∀ c ∈ S.cols,c.name.length≤8∧(c.kind=0∨c.kind=1)∧0≤c.key∧c.key≤9∧c.cells=[]:=by
   intro c hc
   obtain ⟨k,hk,rfl⟩:=List.mem_iff_getElem.1 hc
   have hh:=hS.heads
   simp only [jX,Bool.and_eq_true] at hh
   obtain ⟨a,b,c,d⟩:=Qi (JF hh.1 (Nat.le_refl _) k hk).1
   exact ⟨(Ku a).2,b,c,d,hS.bare _ (List.getElem_mem hk)⟩
  have hlen:S.cols.length≤6:=by
   have hh:=hS.heads
   simp only [jX,Bool.and_eq_true,decide_eq_true_eq] at hh
   exact hh.2.2
  have hfoot:S.plan.foot=(foot:Int):=hS.foot
  unfold qn at hf
  simp only [List.append_assoc] at hf
  have hrow:=hS.rows
  generalize hPL:(jJ S.cols 4 true (qr S) S.mods).flatMap uB=PB at hf
  have r1:=Jx 60 S.rows (uB S.plan.group.toNat++(uB S.plan.page.toNat++(uB S.plan.foot.toNat++(uB S.cols.length++(S.cols.flatMap jZ++PB))))) hrow (by decide)
  have r2:=Jx 60 S.plan.group.toNat (uB S.plan.page.toNat++(uB S.plan.foot.toNat++(uB S.cols.length++(S.cols.flatMap jZ++PB)))) (by omega) (by decide)
  have r3:=Jx 60 S.plan.page.toNat (uB S.plan.foot.toNat++(uB S.cols.length++(S.cols.flatMap jZ++PB))) (by omega) (by decide)
  have r4:=Jx 9 S.plan.foot.toNat (uB S.cols.length++(S.cols.flatMap jZ++PB)) (by omega) (by decide)
  have r5:=Jx 6 S.cols.length (S.cols.flatMap jZ++PB) hlen (by decide)
  rw [← hf] at r1
  have eR:Yd footer=S.rows:=by unfold Yd;rw [r1]
  have eP:UV footer=S.plan:=by
   unfold UV
   rw [r1]
   simp only
   rw [r2]
   simp only
   rw [r3]
   simp only
   rw [r4]
   have ht:=hS.told
   generalize S.plan=p at *
   cases p
   simp only [PlanB.mk.injEq] at *
   exact ⟨by omega,by omega,by omega,ht.symm⟩
  have eC:KR footer=(S.cols,some PB):=by
   unfold KR
   rw [r1]
   simp only
   rw [r2]
   simp only
   rw [r3]
   simp only
   rw [r4]
   simp only
   rw [r5]
   simp only
   rw [CJ PB hcs _ (Nat.le_refl _)]
   simp
  have eS:Gj footer=qr S:=by unfold Gj qr;rw [eR,eC,eP]
  have eM:NV parts footer=(S.mods,some []):=by
   unfold NV
   rw [eC,eS,hS.parts]
   have:=CI hS.mods [] []
   simpa [BT] using this
  unfold LM at hl
  rw [if_pos,if_pos] at hl
  ·cases hl
  ·refine ⟨by rw [eM],?_⟩
   rw [eM,eR,eP,eC,eS]
   exact hS.footer.symm
  ·simp only [Mi,eC,eP,hp,hS.heads,hfoot,Option.isNone_some,Bool.not_false,Bool.true_and,decide_true]
end
section
def zq (file:List UInt8):Option FormF:=Af file
theorem Uq {f:FormF} (h:FormOk f):zq (xk f)=some f :=
 IW _ _ (fun g hg e=>congrArg some (Al h hg e.symm)) (fun hn=>absurd rfl (hn f h))
theorem JH {file:List UInt8} (h:∀ f,FormOk f→xk f≠file):zq file=none :=
 IW _ _ (fun f h1 h2=>absurd h2 (h f h1)) (fun _=>rfl)
theorem Kj {file:List UInt8} {f:FormF} (h:zq file=some f):FormOk f∧xk f=file:=by
 by_cases hex:∃ g,FormOk g∧xk g=file
 ·obtain ⟨g,hg,e⟩:=hex
  rw [← e,Uq hg] at h
  cases h
  exact ⟨hg,e⟩
 ·rw [JH (fun g hg e=>hex ⟨g,hg,e⟩)] at h
  cases h
def zh (foot:Nat) (parts footer:List UInt8):Option SheetF:=LM foot parts footer
theorem KH {foot:Nat} {parts footer:List UInt8} {S:SheetF} (h:SheetOk foot parts footer S):zh foot parts footer=some S :=
 Th _ _ _ _ (fun T hT=>congrArg some (IS h hT)) (fun hn=>absurd h (hn S))
theorem XO {foot:Nat} {parts footer:List UInt8} (h:∀ S,¬ SheetOk foot parts footer S):zh foot parts footer=none :=
 Th _ _ _ _ (fun S h1=>absurd h1 (h S)) (fun _=>rfl)
theorem Ze {foot:Nat} {parts footer:List UInt8} {S:SheetF} (h:zh foot parts footer=some S):SheetOk foot parts footer S:=by
 by_cases hex:∃ T,SheetOk foot parts footer T
 ·obtain ⟨T,hT⟩:=hex
  rw [KH hT] at h
  cases h
  exact hT
 ·rw [XO (fun T hT=>hex ⟨T,hT⟩)] at h
  cases h
def xr (sec non ext body:List UInt8):Option (List UInt8) :=
 if body.length≤5002∧2≤body.length∧za sec non ext (zC sec non (body.take (body.length - 2)))=body then some (zC sec non (body.take (body.length - 2))) else none
structure FoundB where
 name:List UInt8
 kind:Int
 key:Int
 state:Int
 cells:List CellB
def Jt (pre:List UInt8) (r:List KeyB) (key:Int) (s:SpotB) (m:ModF):Option (List UInt8) :=
 if key=0 then some m.plain else xr (ji r key) m.nonce (jR pre s.sort s.g s.c s.p) m.body
def QS (pre:List UInt8) (r:List KeyB) (kind key:Int) (cells:List CellB) (s:SpotB) (m:ModF):Option (List CellB) :=
 match Jt pre r key s m with
 | none=>none
 | some plain =>
  if s.sort=77 then (if plain=Qv kind (cells.drop s.start) then some cells else none)
  else match JS kind plain with
   | none=>none
   | some l=>if l.length=s.many then some (cells++l) else none
def jI (pre:List UInt8) (r:List KeyB) (kind key:Int) (c:Nat):Option (List CellB)→List SpotB→List ModF→Option (List CellB)
 | none,_,_=>none
 | some cells,s :: L,m :: M=>jI pre r kind key c (if s.c=c then QS pre r kind key cells s m else some cells) L M
 | some cells,_,_=>some cells
def qi (pre:List UInt8) (r:List KeyB) (S:SheetF) (c:Nat):FoundB :=
 if 0 < (jf S.cols c).key∧jw r (jf S.cols c).key=false then ⟨(jf S.cols c).name,(jf S.cols c).kind,(jf S.cols c).key,1,[]⟩
 else match jI pre r (jf S.cols c).kind (jf S.cols c).key c (some []) (qr S) S.mods with
  | none=>⟨(jf S.cols c).name,(jf S.cols c).kind,(jf S.cols c).key,2,[]⟩
  | some cells=>⟨(jf S.cols c).name,(jf S.cols c).kind,(jf S.cols c).key,0,cells⟩
def Xr (pre:List UInt8) (r:List KeyB) (S:SheetF):List FoundB:=(List.range S.cols.length).map (qi pre r S)
def xg (file pre:List UInt8) (r:List KeyB) (trust:Bool):Int × Option SheetF :=
 if 20 < pre.length then (7,none)
 else if xI r=false then (1,none)
 else match zq file with
  | none=>(9,none)
  | some f =>
   if f.told=true then
    match zh f.foot f.parts f.footer with
    | none=>(9,none)
    | some S =>
     if trust=true then (0,some S)
     else if jw r (f.foot:Int)=false then (8,none)
     else if xr (ji r (f.foot:Int)) f.nonce (jR pre 83 0 0 0++f.footer) f.body=some [] then (0,some S) else (4,none)
   else if jw r (f.foot:Int)=false then (8,none)
   else match xr (ji r (f.foot:Int)) f.nonce (jR pre 70 0 0 0) f.body with
    | none=>(4,none)
    | some footer =>
     match zh f.foot f.parts footer with
     | none=>(9,none)
     | some S=>(0,some S)
end
section
theorem zV {t:List ColB}:∀ (L:List SpotB) (M:List ModF) (L2:List SpotB) (M2:List ModF),M.length=L.length→jn t (L++L2) (M++M2)=jn t L M++jn t L2 M2:=by
 intro L
 induction L with
 | nil=>intro M L2 M2 h;rw [List.eq_nil_of_length_eq_zero h];simp [jn]
 | cons s L ih =>
  intro M L2 M2 h
  cases M with
  | nil=>simp at h
  | cons m M =>
   simp only [List.cons_append,jn,List.append_assoc]
   rw [ih M L2 M2 (by simpa using h)]
theorem ModsOk.append {t:List ColB} {L:List SpotB} {M:List ModF} {L2:List SpotB} {M2:List ModF} (h:ModsOk t L M) (h2:ModsOk t L2 M2):ModsOk t (L++L2) (M++M2):=by
 induction h using ModsOk.ind with
 | nil=>exact h2
 | cons hm _ ih=>exact .cons hm ih
theorem NX {t:List ColB} {L:List SpotB}:∀ {L2:List SpotB} {M:List ModF},ModsOk t (L++L2) M→∃ M1 M2,M=M1++M2∧ModsOk t L M1∧ModsOk t L2 M2:=by
 induction L with
 | nil=>intro L2 M h;exact ⟨[],M,rfl,.nil,h⟩
 | cons s L ih =>
  intro L2 M h
  cases h using ModsOk.ind with
  | cons hm h2 =>
   obtain ⟨M1,M2,h3,h4,h5⟩:=ih h2
   exact ⟨_ :: M1,M2,by rw [h3];rfl,.cons hm h4,h5⟩
theorem QC {t:List ColB}:∀ (L:List SpotB) (M:List ModF) (L2:List SpotB) (M2:List ModF) (n:Nat) (b:Bool),M.length=L.length→jJ t n b (L++L2) (M++M2)=jJ t n b L M++jJ t (n+(jn t L M).length) (xS b L) L2 M2:=by
 intro L
 induction L with
 | nil=>intro M L2 M2 n b h;rw [List.eq_nil_of_length_eq_zero h];simp [jJ,jn,xS]
 | cons s L ih =>
  intro M L2 M2 n b h
  cases M with
  | nil=>simp at h
  | cons m M =>
   simp only [List.cons_append,jn,jJ,List.append_assoc,xS,List.length_append]
   rw [ih M L2 M2 _ _ (by simpa using h),Nat.add_assoc]
def xx (Q:Nat→Nat→List ModF) (g C:Nat):List ModF:=(List.range C).flatMap fun c=>Q g c
def xl (Q:Nat→Nat→List ModF) (C n:Nat):List ModF:=(List.range n).flatMap fun g=>xx Q g C
theorem zY (Q:Nat→Nat→List ModF) (g C:Nat):xx Q g (C+1)=xx Q g C++Q g C:=by simp [xx,List.range_succ]
theorem Qu (Q:Nat→Nat→List ModF) (C n:Nat):xl Q C (n+1)=xl Q C n++xx Q n C:=by simp [xl,List.range_succ]
theorem XJ {t:List ColB} {Q:Nat→Nat→List ModF} {R G P g:Nat}:∀ {C:Nat},(∀ c,c < C→ModsOk t (jh R G P g c) (Q g c))→ModsOk t (jr R G P g C) (xx Q g C):=by
 intro C
 induction C with
 | zero=>intro _;exact .nil
 | succ C ih=>intro h;rw [zY,zL];exact (ih (fun c hc=>h c (by omega))).append (h C (by omega))
theorem Gt {t:List ColB} {Q:Nat→Nat→List ModF} {R C G P:Nat}:∀ {n:Nat},(∀ g,g < n→∀ c,c < C→ModsOk t (jh R G P g c) (Q g c))→ModsOk t (jH R C G P n) (xl Q C n):=by
 intro n
 induction n with
 | zero=>intro _;exact .nil
 | succ n ih=>intro h;rw [Qu,zK];exact (ih (fun g hg=>h g (by omega))).append (XJ (h n (by omega)))
theorem Gg {t:List ColB}:∀ (L:List SpotB) (M:List ModF) (n:Nat),(∀ s ∈ L,s.sort=80)→jJ t n false L M=[]:=by
 intro L
 induction L with
 | nil=>intro M n _;cases M<;>rfl
 | cons s L ih =>
  intro M n h
  cases M with
  | nil=>rfl
  | cons m M =>
   have hs:=h s (by simp)
   simp only [jJ,hs]
   rw [show decide ((80:UInt8)=77)=false from by decide,ih M _ (fun x hx=>h x (List.mem_cons_of_mem _ hx))]
   rfl
theorem Gz {t:List ColB} {R G P g c n:Nat} {M:List ModF} (h:M.length=(jh R G P g c).length):jJ t n true (jh R G P g c) M=[n]:=by
 cases hp:jt P g c (g*G) (jp R G g) (jY (jp R G g) P) with
 | nil =>
  unfold jh at h ⊢
  rw [hp] at h ⊢
  obtain ⟨m,rfl⟩:=List.length_eq_one_iff.1 h
  rfl
 | cons s L =>
  have hsort:=Zd P g c (g*G) (jp R G g) (jY (jp R G g) P)
  rw [hp] at hsort
  unfold jh at h ⊢
  rw [hp] at h ⊢
  obtain ⟨M0,m,rfl⟩:∃ M0 m,M=M0++[m]:=by
   have hne:M≠[]:=by intro e;rw [e] at h;simp at h
   exact ⟨M.dropLast,M.getLast hne,(List.dropLast_concat_getLast hne).symm⟩
  have hl:M0.length=(s :: L).length:=by simp at h ⊢;omega
  rw [QC _ _ _ _ _ _ hl]
  cases M0 with
  | nil=>simp at hl
  | cons m0 M0 =>
   have hm:xS true (s :: L)=false:=Ur _ hsort (by simp) true
   simp only [jJ]
   rw [hm,show decide (s.sort=77)=false from by rw [hsort s (by simp)];decide,Gg L M0 _ (fun x hx=>hsort x (List.mem_cons_of_mem _ hx))]
   rfl
theorem xu (pre:List UInt8) (r:List KeyB) (kind key:Int) (c:Nat) (L:List SpotB) (M:List ModF):jI pre r kind key c none L M=none:=by cases L<;>cases M<;>rfl
theorem zb (pre:List UInt8) (r:List KeyB) (kind key:Int) (c:Nat):∀ (L:List SpotB) (M:List ModF) (L2:List SpotB) (M2:List ModF) (x:Option (List CellB)),M.length=L.length →
  jI pre r kind key c x (L++L2) (M++M2)=jI pre r kind key c (jI pre r kind key c x L M) L2 M2:=by
 intro L
 induction L with
 | nil=>intro M L2 M2 x h;rw [List.eq_nil_of_length_eq_zero h];cases x<;>simp [jI,xu]
 | cons s L ih =>
  intro M L2 M2 x h
  cases M with
  | nil=>simp at h
  | cons m M =>
   cases x with
   | none=>simp [xu]
   | some cells =>
    simp only [List.cons_append,jI]
    exact ih M L2 M2 _ (by simpa using h)
theorem ZK (pre:List UInt8) (r:List KeyB) (kind key:Int) (c:Nat):∀ (L:List SpotB) (M:List ModF) (x:Option (List CellB)),(∀ s ∈ L,s.c≠c)→jI pre r kind key c x L M=x:=by
 intro L
 induction L with
 | nil=>intro M x _;cases x<;>cases M<;>rfl
 | cons s L ih =>
  intro M x h
  cases x with
  | none=>exact xu ..
  | some cells =>
   cases M with
   | nil=>rfl
   | cons m M =>
    simp only [jI]
    rw [if_neg (h s (by simp))]
    exact ih M _ (fun y hy=>h y (List.mem_cons_of_mem _ hy))
theorem Qt {R G P g c:Nat}:∀ s ∈ jh R G P g c,s.c=c:=by
 intro s hs
 simp only [jh,jt,List.mem_append,List.mem_map,List.mem_range,List.mem_singleton] at hs
 rcases hs with ⟨p,_,rfl⟩|rfl<;>rfl
theorem Ib {t:List ColB} {Q:Nat→Nat→List ModF} {R G P g:Nat} (pre:List UInt8) (r:List KeyB) (kind key:Int) (c:Nat) (x:Option (List CellB)):∀ {C:Nat},(∀ i,i < C→ModsOk t (jh R G P g i) (Q g i)) →
  jI pre r kind key c x (jr R G P g C) (xx Q g C)=if c < C then jI pre r kind key c x (jh R G P g c) (Q g c) else x:=by
 intro C
 induction C with
 | zero=>intro _;simp [jr,xx];cases x<;>rfl
 | succ C ih =>
  intro h
  rw [zY,zL,zb _ _ _ _ _ _ _ _ _ _ (qV (XJ (fun i hi=>h i (by omega)))),ih (fun i hi=>h i (by omega))]
  by_cases hc:c < C
  ·rw [if_pos hc,if_pos (by omega),ZK]
   intro s hs
   rw [Qt s hs];omega
  ·rw [if_neg hc]
   by_cases he:c=C
   ·subst he;rw [if_pos (by omega)]
   ·rw [if_neg (by omega),ZK]
    intro s hs
    rw [Qt s hs];omega
theorem VZ {t:List ColB} {Q:Nat→Nat→List ModF} {R C G P:Nat} (pre:List UInt8) (r:List KeyB) (kind key:Int) {c:Nat} (hc:c < C) (x:Option (List CellB)) {n:Nat} (h:∀ g,g < n+1→∀ i,i < C→ModsOk t (jh R G P g i) (Q g i)) :
  jI pre r kind key c x (jH R C G P (n+1)) (xl Q C (n+1))=jI pre r kind key c (jI pre r kind key c x (jH R C G P n) (xl Q C n)) (jh R G P n c) (Q n c):=by
 rw [Qu,zK,zb _ _ _ _ _ _ _ _ _ _ (qV (Gt (fun g hg=>h g (by omega)))),Ib pre r kind key c _ (h n (by omega)),if_pos hc]
theorem Zk (pre:List UInt8) (r:List KeyB) (kind key:Int) (s:SpotB) (m:ModF) (cells:List CellB):jI pre r kind key s.c (some cells) [s] [m]=QS pre r kind key cells s m:=by
 simp only [jI,if_true]
 cases QS pre r kind key cells s m<;>rfl
theorem IJ (pre:List UInt8) (r:List KeyB) (kind key:Int) (c:Nat) (cells:List CellB):∀ (L:List SpotB) (M:List ModF) (x:List CellB),(∀ s ∈ L,s.sort=80)→jI pre r kind key c (some (cells++x)) L M=(jI pre r kind key c (some x) L M).map (cells++·):=by
 intro L
 induction L with
 | nil=>intro M x _;cases M<;>rfl
 | cons s L ih =>
  intro M x h
  cases M with
  | nil=>rfl
  | cons m M =>
   simp only [jI]
   by_cases hc:s.c=c
   ·rw [if_pos hc,if_pos hc]
    have hs:¬ s.sort=77:=by rw [h s (by simp)];decide
    unfold QS
    simp only [if_neg hs]
    cases Jt pre r key s m with
    | none=>simp [xu]
    | some plain =>
     dsimp only
     cases hu:JS kind plain with
     | none=>simp [xu]
     | some l =>
      dsimp only
      by_cases hm:l.length=s.many
      ·rw [if_pos hm,if_pos hm,List.append_assoc];exact ih M _ (fun y hy=>h y (List.mem_cons_of_mem _ hy))
      ·rw [if_neg hm,if_neg hm];simp [xu]
   ·rw [if_neg hc,if_neg hc]
    exact ih M _ (fun y hy=>h y (List.mem_cons_of_mem _ hy))
def qH (R G P g c:Nat):List SpotB:=jt P g c (g*G) (jp R G g) (jY (jp R G g) P)
def Xd (R G g c:Nat):SpotB:=⟨77,g,c,0,g*G,jp R G g⟩
theorem US (R G P g c:Nat):jh R G P g c=qH R G P g c++[Xd R G g c]:=rfl
theorem VX (pre:List UInt8) (r:List KeyB) (kind key:Int) {R G P g c:Nat} (cells:List CellB) (hl:cells.length=g*G) (mp:List ModF) (mm:ModF) (hm:mp.length=(qH R G P g c).length) :
  jI pre r kind key c (some cells) (jh R G P g c) (mp++[mm])=(jI pre r kind key c (some []) (qH R G P g c) mp).bind fun part=>if Jt pre r key (Xd R G g c) mm=some (Qv kind part) then some (cells++part) else none:=by
 rw [US,zb _ _ _ _ _ _ _ _ _ _ hm]
 have h1:=IJ pre r kind key c cells (qH R G P g c) mp [] (Zd _ _ _ _ _ _)
 rw [List.append_nil] at h1
 rw [h1]
 cases jI pre r kind key c (some []) (qH R G P g c) mp with
 | none=>simp [xu]
 | some part =>
  simp only [Option.map_some,Option.bind_some]
  have:=Zk pre r kind key (Xd R G g c) mm (cells++part)
  rw [show (Xd R G g c).c=c from rfl] at this
  rw [this]
  unfold QS
  have hd:(cells++part).drop (Xd R G g c).start=part:=by
   show (cells++part).drop (g*G)=part
   rw [← hl,List.drop_left]
  rw [hd]
  cases Jt pre r key (Xd R G g c) mm with
  | none=>simp
  | some plain=>simp only [Option.some.injEq,if_pos (show (Xd R G g c).sort=77 from rfl)]
theorem GC (pre:List UInt8) (r:List KeyB) (kind key:Int) {P g c start n:Nat}:∀ (k:Nat) (mp:List ModF) (part:List CellB),mp.length=k→k*P≤n+P→jI pre r kind key c (some []) (jt P g c start n k) mp=some part→part.length=min (k*P) n:=by
 intro k
 induction k with
 | zero=>intro mp part hl _ h;rw [List.eq_nil_of_length_eq_zero hl] at h;simp [jt,jI] at h;subst h;simp
 | succ k ih =>
  intro mp part hl hk h
  obtain ⟨M0,m,rfl⟩:∃ M0 m,mp=M0++[m]:=by
   have hne:mp≠[]:=by intro e;rw [e] at hl;simp at hl
   exact ⟨mp.dropLast,mp.getLast hne,(List.dropLast_concat_getLast hne).symm⟩
  have hl0:M0.length=k:=by simp at hl;omega
  rw [Qs,zb _ _ _ _ _ _ _ _ _ _ (by rw [hl0];simp [jt])] at h
  rw [Nat.succ_mul] at hk ⊢
  cases hc:jI pre r kind key c (some []) (jt P g c start n k) M0 with
  | none=>rw [hc,xu] at h;cases h
  | some x =>
   rw [hc] at h
   have hx:=ih M0 x hl0 (by omega) hc
   have:=Zk pre r kind key ⟨80,g,c,k,start+k*P,jp n P k⟩ m x
   simp only at this
   rw [this] at h
   unfold QS at h
   simp only [show ¬ ((80:UInt8)=77) from by decide,if_false] at h
   split at h
   ·cases h
   ·split at h
    ·cases h
    ·split at h
     ·rename_i hmany
      cases h
      rw [List.length_append,hx,hmany]
      unfold jp
      omega
     ·cases h
theorem UO {n size:Nat} (hs:1≤size):n≤jY n size*size∧jY n size*size≤n+size:=by
 have h1:=(Ju (n:=n) (i:=jY n size) hs)
 have h2:¬ jY n size*size < n:=fun h=>by have:=h1.2 h;omega
 refine ⟨by omega,?_⟩
 rcases Nat.eq_zero_or_pos (jY n size) with h0|h0
 ·rw [h0];omega
 ·have h3:=(Ju (n:=n) (i:=jY n size - 1) hs).1 (by omega)
  have h4:(jY n size - 1)*size+size=jY n size*size:=by rw [← Nat.succ_mul];congr 1;omega
  omega
theorem KX (pre:List UInt8) (r:List KeyB) (kind key:Int) {R G P g c:Nat} (hP:1≤P) {mp:List ModF} {part:List CellB} (hm:mp.length=(qH R G P g c).length) (h:jI pre r kind key c (some []) (qH R G P g c) mp=some part):part.length=jp R G g:=by
 have hk:mp.length=jY (jp R G g) P:=by rw [hm];simp [qH,jt]
 have h1:=UO (n:=jp R G g) hP
 have:=GC pre r kind key _ mp part hk h1.2 h
 omega
theorem Yr {t:List ColB} {Q:Nat→Nat→List ModF} {R C G P:Nat} (pre:List UInt8) (r:List KeyB) (kind key:Int) {c:Nat} (hc:c < C) (hP:1≤P):∀ {n:Nat} {cells:List CellB},(∀ g,g < n→∀ i,i < C→ModsOk t (jh R G P g i) (Q g i))→n*G≤R+G →
  jI pre r kind key c (some []) (jH R C G P n) (xl Q C n)=some cells→cells.length=min (n*G) R:=by
 intro n
 induction n with
 | zero=>intro cells _ _ h;simp [jH,jI] at h;subst h;simp
 | succ n ih =>
  intro cells h hn e
  rw [VZ pre r kind key hc _ h] at e
  rw [Nat.succ_mul] at hn ⊢
  cases hx:jI pre r kind key c (some []) (jH R C G P n) (xl Q C n) with
  | none=>rw [hx,xu] at e;cases e
  | some x =>
   rw [hx] at e
   have hl:=ih (fun g hg=>h g (by omega)) (by omega) hx
   have hq:=qV (h n (by omega) c hc)
   obtain ⟨mp,mm,hmm⟩:∃ mp mm,Q n c=mp++[mm]:=by
    have hne:Q n c≠[]:=by intro e;rw [e] at hq;simp [jh] at hq
    exact ⟨(Q n c).dropLast,(Q n c).getLast hne,(List.dropLast_concat_getLast hne).symm⟩
   have hmp:mp.length=(qH R G P n c).length:=by rw [hmm,US] at hq;simpa using hq
   rw [hmm,VX pre r kind key x (by omega) mp mm hmp] at e
   cases hp:jI pre r kind key c (some []) (qH R G P n c) mp with
   | none=>rw [hp] at e;simp at e
   | some part =>
    rw [hp] at e
    have hpl:=KX pre r kind key hP hmp hp
    simp only [Option.bind_some] at e
    split at e
    ·cases e
     rw [List.length_append,hl,hpl]
     unfold jp
     omega
    ·cases e
end
section
theorem Sf (sec non ext p:List UInt8):(za sec non ext p).take ((za sec non ext p).length - 2)=zC sec non p:=by
 rw [zc]
 unfold za
 rw [show p.length+2 - 2=(zC sec non p).length by rw [JN];omega,List.take_left]
theorem Zt (sec non ext p:List UInt8) (h:p.length≤5000):xr sec non ext (za sec non ext p)=some p:=by
 have e:zC sec non ((za sec non ext p).take ((za sec non ext p).length - 2))=p:=by rw [Sf,GP]
 unfold xr
 rw [e,if_pos ⟨by rw [zc];omega,by rw [zc];omega,rfl⟩]
theorem Zj {sec non ext b p:List UInt8} (h:xr sec non ext b=some p):b=za sec non ext p∧b.length≤5002:=by
 unfold xr at h
 split at h
 ·rename_i hc
  cases h
  exact ⟨hc.2.2.symm,hc.1⟩
 ·cases h
def XI (j:JobB) (r:List KeyB):Nat→List SpotB→List ModF
 | _,[]=>[]
 | n,s :: L =>
  if (jf j.table s.c).key=0 then ⟨qS j.table s,[],[]⟩ :: XI j r n L
  else ⟨[],xo j.draw n,za (ji r (jf j.table s.c).key) (xo j.draw n) (jR j.pre s.sort s.g s.c s.p) (qS j.table s)⟩ :: XI j r (n+1) L
theorem PW (j:JobB) (r:List KeyB):∀ (L:List SpotB) (st:StB),(qA j r st L).out=st.out++jn j.table L (XI j r st.log.length L):=by
 intro L
 induction L with
 | nil=>intro st;simp [qA,XI,jn]
 | cons s L ih =>
  intro st
  show (qA j r (zM j r st s) L).out=_
  rw [ih]
  simp only [XI]
  by_cases hk:(jf j.table s.c).key=0
  ·rw [if_pos hk]
   simp only [jn,zM,QA,hk,if_true,zU,qq,List.append_assoc]
  ·rw [if_neg hk]
   simp only [jn,zM,QA,if_neg hk,zx,qq,List.append_assoc,List.length_append,List.length_cons,List.length_nil,Nat.zero_add]
theorem Io (j:JobB) (r:List KeyB):∀ (L:List SpotB) (st:StB) (b:Bool),qP j r st b L=jJ j.table st.out.length b L (XI j r st.log.length L):=by
 intro L
 induction L with
 | nil=>intro st b;simp [qP,XI,jJ]
 | cons s L ih =>
  intro st b
  simp only [qP]
  rw [ih]
  simp only [XI]
  by_cases hk:(jf j.table s.c).key=0
  ·rw [if_pos hk]
   simp only [jJ,zM,QA,hk,if_true,zU,qq,List.length_append]
  ·rw [if_neg hk]
   simp only [jJ,zM,QA,if_neg hk,zx,qq,List.length_append,List.length_cons,List.length_nil,Nat.zero_add]
theorem SD (j:JobB) (r:List KeyB):∀ (L:List SpotB) (n:Nat),(∀ s ∈ L,(qS j.table s).length≤5000)→ModsOk j.table L (XI j r n L):=by
 intro L
 induction L with
 | nil=>intro n _;exact .nil
 | cons s L ih =>
  intro n h
  have hp:=h s (by simp)
  simp only [XI]
  by_cases hk:(jf j.table s.c).key=0
  ·rw [if_pos hk]
   exact .cons (.inl ⟨hk,rfl,rfl,by show (qS j.table s).length≤_;omega⟩) (ih _ (fun x hx=>h x (List.mem_cons_of_mem _ hx)))
  ·rw [if_neg hk]
   refine .cons (.inr ⟨hk,rfl,rfl,?_,?_⟩) (ih _ (fun x hx=>h x (List.mem_cons_of_mem _ hx)))
   ·show 2≤(za ..).length;rw [zc];omega
   ·show (za ..).length≤65535;rw [zc];omega
def DH (c:ColB):ColB:=⟨c.name,c.kind,c.key,[]⟩
def zg (t:List ColB):List ColB:=t.map DH
theorem VO (t:List ColB) (c:Nat):jf (zg t) c=DH (jf t c):=by
 unfold jf zg
 rw [List.getD_eq_getElem?_getD,List.getD_eq_getElem?_getD,List.getElem?_map]
 cases t[c]?<;>rfl
theorem Mt (t:List ColB):∀ (L:List SpotB) (M:List ModF),jn (zg t) L M=jn t L M:=by
 intro L
 induction L with
 | nil=>intro M;rfl
 | cons s L ih=>intro M;cases M with
  | nil=>rfl
  | cons m M=>simp only [jn,VO,ih];rfl
theorem AV (t:List ColB):∀ (L:List SpotB) (M:List ModF) (n:Nat) (b:Bool),jJ (zg t) n b L M=jJ t n b L M:=by
 intro L
 induction L with
 | nil=>intro M n b;rfl
 | cons s L ih=>intro M n b;cases M with
  | nil=>rfl
  | cons m M=>simp only [jJ,VO,ih];rfl
theorem PJ {t:List ColB} {L:List SpotB} {M:List ModF} (h:ModsOk t L M):ModsOk (zg t) L M:=by
 induction h using ModsOk.ind with
 | nil=>exact .nil
 | cons hm _ ih=>exact .cons (by rw [VO];exact hm) ih
theorem AK (R:Nat) (p:PlanB) (b:Bool) (t:List ColB) (pl:List Nat):qn R ⟨p.group,p.page,p.foot,b⟩ (zg t) pl=qn R p t pl:=by
 have e:(zg t).flatMap jZ=t.flatMap jZ:=by
  unfold zg
  rw [List.flatMap_map]
  rfl
 unfold qn
 rw [e]
 simp [zg]
theorem PE (t:List ColB) (s:List UInt8):zf (zg t) s=zf t s:=by
 unfold zf zg
 rw [List.any_map]
 rfl
theorem Ix (t:List ColB):∀ n,Jl (zg t) n=Jl t n:=by
 intro n
 induction n with
 | zero=>rfl
 | succ n ih =>
  simp only [Jl,ih]
  have e:(zg t)[n]?=(t[n]?).map DH:=by unfold zg;rw [List.getElem?_map]
  rw [e]
  cases h:t[n]? with
  | none=>rfl
  | some c =>
   have e2:(zg t).take n=zg (t.take n):=by unfold zg;rw [List.map_take]
   simp only [Option.map_some,e2,PE]
   rfl
theorem NY (t:List ColB):jX (zg t)=jX t:=by
 unfold jX
 rw [show (zg t).length=t.length by simp [zg],Ix]
def ME (j:JobB) (r:List KeyB):List UInt8:=jn j.table (qG j) (XI j r 0 (qG j))
def Je (j:JobB) (r:List KeyB):SheetF:=⟨qb j.table,⟨j.plan.group,j.plan.page,j.plan.foot,false⟩,zg j.table,XI j r 0 (qG j)⟩
theorem XN (j:JobB) (r:List KeyB):qr (Je j r)=qG j:=by
 simp [qr,Je,qG,zg]
theorem GoodJ.plains {j:JobB} {r:List KeyB} (h:GoodJ j r):∀ s ∈ qG j,(qS j.table s).length≤5000:=by
 intro s hs
 have hi:=h.spotIn s hs
 have:=UD h.table hi.col hi.few.2.2.2.2
 omega
theorem TE {j:JobB} {r:List KeyB} (h:GoodJ j r):SheetOk j.plan.foot.toNat (ME j r) (xZ j r) (Je j r):=by
 obtain ⟨_,_,hf1,hf2⟩:=h.sizes
 refine ⟨h.table.rows,?_,rfl,?_,?_,?_,?_,?_,?_⟩
 ·exact h.plan
 ·show j.plan.foot=_;omega
 ·show jX (zg j.table)=true
  rw [NY]
  have:=h.table.ok
  simp only [xy,Bool.and_eq_true] at this
  exact this.1
 ·intro c hc
  simp only [Je,zg,List.mem_map] at hc
  obtain ⟨x,_,rfl⟩:=hc
  rfl
 ·rw [XN]
  exact PJ (SD j r _ 0 h.plains)
 ·rw [XN]
  exact (Mt ..).symm
 ·rw [XN]
  show xZ j r=qn (qb j.table) ⟨j.plan.group,j.plan.page,j.plan.foot,false⟩ (zg j.table) (jJ (zg j.table) 4 true (qG j) (XI j r 0 (qG j)))
  rw [AK,AV]
  unfold xZ zI
  rw [Io]
  rfl
def QT (j:JobB) (r:List KeyB):FormF :=
 ⟨j.plan.told,j.plan.foot.toNat,ME j r,if j.plan.told=true then xZ j r else [],xo j.draw (xC j r).log.length,
  za (ji r j.plan.foot) (xo j.draw (xC j r).log.length) (if j.plan.told=true then jR j.pre 83 0 0 0++xZ j r else jR j.pre 70 0 0 0) (if j.plan.told=true then [] else xZ j r)⟩
theorem DY (j:JobB) (r:List KeyB):(xC j r).out=zw j.plan++ME j r:=PW j r (qG j) ⟨zw j.plan,[]⟩
theorem Rn {j:JobB} {r:List KeyB} (h:GoodJ j r):zr j r=xk (QT j r):=by
 obtain ⟨_,_,hf1,hf2⟩:=h.sizes
 have hfoot:((j.plan.foot.toNat:Nat):Int)=j.plan.foot:=by omega
 have hout:(Jb j r (xZ j r) (xC j r)).out=(xC j r).out++qp (QT j r):=by
  unfold Jb qp QT
  cases ht:j.plan.told with
  | true=>simp only [if_true,zx,zU,List.append_assoc]
  | false=>simp only [if_false,Bool.false_eq_true,zx,List.append_assoc,List.nil_append]
 have hlen:(Jb j r (xZ j r) (xC j r)).out.length - (xC j r).out.length=(qp (QT j r)).length:=by
  rw [hout,List.length_append];omega
 unfold zr
 rw [hlen,hout,DY]
 unfold xk zw
 simp only [QT,hfoot,List.append_assoc]
 rfl
theorem LW {j:JobB} {r:List KeyB} (h:GoodJ j r) (hs:(zr j r).length≤65000):FormOk (QT j r):=by
 obtain ⟨_,_,hf1,hf2⟩:=h.sizes
 refine ⟨GA _ _,?_,?_,by rw [← Rn h];exact hs,?_⟩
 ·show 2≤(za ..).length;rw [zc];omega
 ·show 1≤j.plan.foot.toNat∧j.plan.foot.toNat≤9;omega
 ·intro ht
  show (if j.plan.told=true then xZ j r else [])=[]
  rw [if_neg (by rw [show j.plan.told=false from ht];decide)]
theorem Dh {j:JobB} {r:List KeyB} (h:GoodJ j r) (hs:(zr j r).length≤65000):zq (zr j r)=some (QT j r):=by
 rw [Rn h]
 exact Uq (LW h hs)
def Plains (t:List ColB) (pre:List UInt8) (r:List KeyB) (c:Nat):List SpotB→List ModF→Prop
 | [],[]=>True
 | s :: L,m :: M=>(s.c=c→Jt pre r (jf t c).key s m=some (qS t s))∧Plains t pre r c L M
 | _,_=>False
theorem Plains.nil {t:List ColB} {pre:List UInt8} {r:List KeyB} {c:Nat}:Plains t pre r c [] []:=trivial
theorem Plains.cons {t:List ColB} {pre:List UInt8} {r:List KeyB} {c:Nat} {s:SpotB} {L:List SpotB} {m:ModF} {M:List ModF} (a:s.c=c→Jt pre r (jf t c).key s m=some (qS t s)) (b:Plains t pre r c L M):Plains t pre r c (s :: L) (m :: M):=And.intro a b
theorem Plains.ind {t:List ColB} {pre:List UInt8} {r:List KeyB} {c:Nat} {motive:(L:List SpotB)→(M:List ModF)→Plains t pre r c L M→Prop} (nil:motive [] [] .nil)
  (cons:∀ {s:SpotB} {L:List SpotB} {m:ModF} {M:List ModF} (a:s.c=c→Jt pre r (jf t c).key s m=some (qS t s)) (b:Plains t pre r c L M),motive L M b→motive (s :: L) (m :: M) (.cons a b)):∀ {L:List SpotB} {M:List ModF} (h:Plains t pre r c L M),motive L M h
 | [],[],_=>nil
 | _ :: _,_ :: _,h=>cons h.1 h.2 (Plains.ind nil cons h.2)
 | [],_ :: _,h=>absurd h id
 | _ :: _,[],h=>absurd h id
theorem Plains.cut {t:List ColB} {pre:List UInt8} {r:List KeyB} {c:Nat} {L:List SpotB}:∀ {L2:List SpotB} {M:List ModF},Plains t pre r c (L++L2) M→∃ M1 M2,M=M1++M2∧M1.length=L.length∧Plains t pre r c L M1∧Plains t pre r c L2 M2:=by
 induction L with
 | nil=>intro L2 M h;exact ⟨[],M,rfl,rfl,.nil,h⟩
 | cons s L ih =>
  intro L2 M h
  cases h using Plains.ind with
  | cons hm h2 =>
   obtain ⟨M1,M2,h3,h3',h4,h5⟩:=ih h2
   exact ⟨_ :: M1,M2,by rw [h3];rfl,by simp [h3'],.cons hm h4,h5⟩
theorem IK {j:JobB} {r r2:List KeyB} {c:Nat} (hk:(jf j.table c).key=0∨ji r2 (jf j.table c).key=ji r (jf j.table c).key):∀ (L:List SpotB) (n:Nat),(∀ s ∈ L,(qS j.table s).length≤5000)→Plains j.table j.pre r2 c L (XI j r n L):=by
 intro L
 induction L with
 | nil=>intro n _;exact .nil
 | cons s L ih =>
  intro n h
  simp only [XI]
  by_cases h0:(jf j.table s.c).key=0
  ·rw [if_pos h0]
   refine .cons (fun hc=>?_) (ih _ (fun x hx=>h x (List.mem_cons_of_mem _ hx)))
   rw [hc] at h0
   simp [Jt,h0]
  ·rw [if_neg h0]
   refine .cons (fun hc=>?_) (ih _ (fun x hx=>h x (List.mem_cons_of_mem _ hx)))
   rw [hc] at h0
   rcases hk with hk|hk
   ·exact absurd hk h0
   ·unfold Jt
    rw [if_neg h0,hk,hc]
    simp only [hc]
    exact Zt _ _ _ _ (h s (by simp))
theorem Ch {α:Type} (l:List α) (a n:Nat):l.take a++(l.drop a).take n=l.take (a+n):=(List.take_add).symm
theorem PV {t:List ColB} {pre:List UInt8} {r:List KeyB} {s:SpotB} {m:ModF} (hg:GoodT t) (hc:s.c < t.length) (hsort:s.sort=80) (hend:s.start+s.many≤qb t) (hp:Jt pre r (jf t s.c).key s m=some (qS t s)) :
  QS pre r (jf t s.c).kind (jf t s.c).key ((jf t s.c).cells.take s.start) s m=some ((jf t s.c).cells.take (s.start+s.many)):=by
 obtain ⟨h1,h2,h3⟩:=hg.cells s.c hc
 have hok:qC (t[s.c]).kind (((t[s.c]).cells.drop s.start).take s.many)=true:=by
  have:=(Ga hg.ok).2 t[s.c] (List.getElem_mem hc)
  have h4:=this.1
  simp only [qC,Bool.and_eq_true,Bool.or_eq_true,decide_eq_true_eq,List.all_eq_true] at h4 ⊢
  refine ⟨⟨h4.1.1,by rw [List.length_take];omega⟩,fun x hx=>h4.2 x (List.mem_of_mem_drop (List.mem_of_mem_take hx))⟩
 have hr:∀ x ∈ ((t[s.c]).cells.drop s.start).take s.many,JD x:=fun x hx=>by
  have:=h3 x (List.mem_of_mem_drop (List.mem_of_mem_take hx))
  exact ⟨this.1,this.2.1⟩
 rw [xz hc] at hp ⊢
 unfold QS
 rw [hp]
 have hpl:qS t s=xN (t[s.c]).kind (((t[s.c]).cells.drop s.start).take s.many):=by
  unfold qS
  rw [if_neg (by rw [hsort];decide),xz hc]
 simp only [hpl,if_neg (show ¬ s.sort=77 from by rw [hsort];decide),Uo _ _ hok hr]
 rw [if_pos (by rw [List.length_take,List.length_drop];omega),Ch]
theorem PK {t:List ColB} {pre:List UInt8} {r:List KeyB} {s:SpotB} {m:ModF} (hc:s.c < t.length) (hsort:s.sort=77) (hp:Jt pre r (jf t s.c).key s m=some (qS t s)) :
  QS pre r (jf t s.c).kind (jf t s.c).key ((jf t s.c).cells.take (s.start+s.many)) s m=some ((jf t s.c).cells.take (s.start+s.many)):=by
 unfold QS
 rw [hp]
 have hpl:qS t s=Qv (jf t s.c).kind (((jf t s.c).cells.drop s.start).take s.many):=by
  unfold qS
  rw [if_pos hsort]
 simp only [hpl,if_pos hsort]
 rw [if_pos]
 rw [List.drop_take,Nat.add_sub_cancel_left]
theorem EO {t:List ColB} {pre:List UInt8} {r:List KeyB} {R G P g c:Nat} (hg:GoodT t) (hR:R=qb t) (hG:g*G < R) (hc:c < t.length) (hP:1≤P):∀ (k:Nat) (M:List ModF),k≤jY (jp R G g) P→Plains t pre r c (jt P g c (g*G) (jp R G g) k) M →
  jI pre r (jf t c).kind (jf t c).key c (some ((jf t c).cells.take (g*G))) (jt P g c (g*G) (jp R G g) k) M=some ((jf t c).cells.take (g*G+min (k*P) (jp R G g))):=by
 intro k
 induction k with
 | zero=>intro M _ h;cases h using Plains.ind;simp [jI]
 | succ k ih =>
  intro M hk h
  rw [Qs] at h ⊢
  obtain ⟨M1,M2,rfl,hl,h1,h2⟩:=h.cut
  rw [zb _ _ _ _ _ _ _ _ _ _ hl,ih M1 (by omega) h1]
  have hlt:=(Ju (n:=jp R G g) (i:=k) hP).1 (by omega)
  have hpn:=jp R G g
  have hpe:g*G+jp R G g≤R:=by unfold jp;omega
  cases h2 using Plains.ind with
  | cons hm h3 =>
   cases h3 using Plains.ind
   rename_i m _ih
   have e1:min (k*P) (jp R G g)=k*P:=by omega
   rw [e1]
   have:=PV (m:=m) (pre:=pre) (r:=r) (s:=⟨80,g,c,k,g*G+k*P,jp (jp R G g) P k⟩) hg hc rfl (by simp only [jp] at *;omega) (hm rfl)
   simp only at this
   have e2:=Zk pre r (jf t c).kind (jf t c).key ⟨80,g,c,k,g*G+k*P,jp (jp R G g) P k⟩ m ((jf t c).cells.take (g*G+k*P))
   simp only at e2
   rw [e2,this,Nat.succ_mul]
   congr 2
   have:jp (jp R G g) P k=min P (jp R G g - k*P):=rfl
   omega
theorem Iu {t:List ColB} {pre:List UInt8} {r:List KeyB} {R G P g c:Nat} (hg:GoodT t) (hR:R=qb t) (hG:g*G < R) (hc:c < t.length) (hP:1≤P) {M:List ModF} (h:Plains t pre r c (jh R G P g c) M) :
  jI pre r (jf t c).kind (jf t c).key c (some ((jf t c).cells.take (g*G))) (jh R G P g c) M=some ((jf t c).cells.take (g*G+jp R G g)):=by
 unfold jh at h ⊢
 obtain ⟨M1,M2,rfl,hl,h1,h2⟩:=h.cut
 rw [zb _ _ _ _ _ _ _ _ _ _ hl,EO hg hR hG hc hP _ M1 (Nat.le_refl _) h1]
 have hm:=UO (n:=jp R G g) hP
 rw [show min (jY (jp R G g) P*P) (jp R G g)=jp R G g by omega]
 cases h2 using Plains.ind with
 | cons hm h3 =>
  cases h3 using Plains.ind
  rename_i m _ih
  have:=PK (m:=m) (pre:=pre) (r:=r) (s:=⟨77,g,c,0,g*G,jp R G g⟩) hc rfl (hm rfl)
  have e2:=Zk pre r (jf t c).kind (jf t c).key ⟨77,g,c,0,g*G,jp R G g⟩ m ((jf t c).cells.take (g*G+jp R G g))
  simp only at e2 this
  rw [e2,this]
theorem IE {t:List ColB} {pre:List UInt8} {r:List KeyB} {R G P g c:Nat} (hg:GoodT t) (hR:R=qb t) (hG:g*G < R) (hc:c < t.length) (hP:1≤P):∀ (C:Nat) (M:List ModF),Plains t pre r c (jr R G P g C) M →
  jI pre r (jf t c).kind (jf t c).key c (some ((jf t c).cells.take (g*G))) (jr R G P g C) M=some ((jf t c).cells.take (if c < C then g*G+jp R G g else g*G)):=by
 intro C
 induction C with
 | zero=>intro M h;cases h using Plains.ind;simp [jr,jI]
 | succ C ih =>
  intro M h
  rw [zL] at h ⊢
  obtain ⟨M1,M2,rfl,hl,h1,h2⟩:=h.cut
  rw [zb _ _ _ _ _ _ _ _ _ _ hl,ih M1 h1]
  by_cases hlt:c < C
  ·rw [if_pos hlt,if_pos (by omega),ZK]
   intro s hs;rw [Qt s hs];omega
  ·rw [if_neg hlt]
   by_cases he:c=C
   ·subst he
    rw [if_pos (by omega),Iu hg hR hG hc hP h2]
   ·rw [if_neg (by omega),ZK]
    intro s hs;rw [Qt s hs];omega
theorem En {t:List ColB} {pre:List UInt8} {r:List KeyB} {R G P c:Nat} (hg:GoodT t) (hR:R=qb t) (hG:1≤G) (hc:c < t.length) (hP:1≤P):∀ (n:Nat) (M:List ModF),n≤jY R G→Plains t pre r c (jH R t.length G P n) M →
  jI pre r (jf t c).kind (jf t c).key c (some []) (jH R t.length G P n) M=some ((jf t c).cells.take (min (n*G) R)):=by
 intro n
 induction n with
 | zero=>intro M _ h;cases h using Plains.ind;simp [jH,jI]
 | succ n ih =>
  intro M hn h
  rw [zK] at h ⊢
  obtain ⟨M1,M2,rfl,hl,h1,h2⟩:=h.cut
  have hlt:=(Ju (n:=R) (i:=n) hG).1 (by omega)
  rw [zb _ _ _ _ _ _ _ _ _ _ hl,ih M1 (by omega) h1]
  have e:min (n*G) R=n*G:=by omega
  rw [e,IE hg hR hlt hc hP _ M2 h2,if_pos hc,Nat.succ_mul]
  congr 2
  unfold jp
  omega
theorem Mc {j:JobB} {r r2:List KeyB} {c:Nat} (h:GoodJ j r) (hc:c < j.table.length) (hk:(j.table[c]).key=0∨ji r2 (j.table[c]).key=ji r (j.table[c]).key) :
  jI j.pre r2 (j.table[c]).kind (j.table[c]).key c (some []) (qr (Je j r)) (Je j r).mods=some (j.table[c]).cells:=by
 obtain ⟨⟨a,b⟩,⟨d,e⟩,_⟩:=h.sizes
 rw [XN]
 rw [← xz hc] at hk
 have h1:=IK (r:=r) (r2:=r2) hk (qG j) 0 h.plains
 have h2:=En (pre:=j.pre) (r:=r2) h.table rfl a hc d _ _ (Nat.le_refl _) h1
 show jI j.pre r2 _ _ c (some []) (qG j) (XI j r 0 (qG j))=_
 rw [xz hc] at h2
 unfold qG qm at *
 rw [h2]
 congr 1
 obtain ⟨h3,_⟩:=h.table.cells c hc
 have h4:=UO (n:=qb j.table) a
 rw [show min (jY (qb j.table) j.plan.group.toNat*j.plan.group.toNat) (qb j.table)=qb j.table by omega,← h3,List.take_length]
end
end Go.Proofs.YthhpbhpfagoapabGreat
