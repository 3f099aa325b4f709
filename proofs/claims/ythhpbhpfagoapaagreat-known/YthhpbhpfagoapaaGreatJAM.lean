import Derived.Test.YthhpbhpfagoapaaGreatJBA
import Derived.Test.YthhpbhpfagoapaaGreatJAT
import Derived.Laws.CopyOwn
import Derived.OwnWalk
import Derived.Deep.QuietTactic
import Derived.BigQuiet
import Derived.WalkSmall
import Derived.Deep.RegionWith
namespace Go.Proofs.YthhpbhpfagoapaaGreat
set_option linter.unusedVariables false
set_option linter.unusedSimpArgs false
set_option maxRecDepth 100000
set_option maxHeartbeats 16000000
section
theorem GB {j:JobB} {r r2:List KeyB} {trust:Bool} (h:GoodJ j r) (hs:(xC j r).length≤65000) (hr2:xG r2=true) (hsec:js r2 j.plan.foot=true→jl r2 j.plan.foot=jl r j.plan.foot) :
  zn (xC j r) j.pre r2 trust=if js r2 j.plan.foot=false∧¬ (j.plan.told=true∧trust=true) then (8,none) else (0,some (zm j r)):=by
 have hpre:=h.pre
 obtain ⟨_,_,hf1,hf2⟩:=h.sizes
 have hfoot:((j.plan.foot.toNat:Nat):Int)=j.plan.foot:=by omega
 have hsh:=ZW (ME h)
 have hfl:=h.foot.2.2
 unfold zn
 rw [if_neg (by omega),if_neg (by rw [hr2];decide),Es h hs]
 show (if j.plan.told=true then _ else _)=_
 cases ht:j.plan.told with
 | true =>
  have e1:(Qf j r).footer=xX j r:=by show (if j.plan.told=true then xX j r else [])=_;rw [if_pos ht]
  rw [if_pos rfl,e1]
  rw [show xQ (Qf j r).foot (Qf j r).parts (xX j r)=some (zm j r) from hsh]
  simp only [true_and]
  cases trust with
  | true=>simp
  | false =>
   rw [if_neg (by decide)]
   show (if js r2 ((j.plan.foot.toNat:Nat):Int)=false then ((8:Int),(none:Option SheetF)) else _)=_
   rw [hfoot]
   cases hn:js r2 j.plan.foot with
   | false=>simp
   | true =>
    rw [if_neg (by decide)]
    have e2:xy (jl r2 ((Qf j r).foot:Int)) (Qf j r).nonce (qE j.pre 83 0 0 0++xX j r) (Qf j r).body=some []:=by
     show xy (jl r2 ((j.plan.foot.toNat:Nat):Int)) (xM j.draw (xq j r).log.length) _ (xV (jl r j.plan.foot) (xM j.draw (xq j r).log.length) (if j.plan.told=true then qE j.pre 83 0 0 0++xX j r else qE j.pre 70 0 0 0) (if j.plan.told=true then [] else xX j r))=_
     rw [hfoot,hsec hn,if_pos ht,if_pos ht]
     exact Ut _ _ _ _ (by simp)
    rw [if_pos e2]
    simp
 | false =>
  rw [if_neg (by decide)]
  show (if js r2 ((j.plan.foot.toNat:Nat):Int)=false then ((8:Int),(none:Option SheetF)) else _)=_
  rw [hfoot]
  cases hn:js r2 j.plan.foot with
  | false=>simp
  | true =>
   rw [if_neg (by decide),if_neg (by simp)]
   have e2:xy (jl r2 ((Qf j r).foot:Int)) (Qf j r).nonce (qE j.pre 70 0 0 0) (Qf j r).body=some (xX j r):=by
    show xy (jl r2 ((j.plan.foot.toNat:Nat):Int)) (xM j.draw (xq j r).log.length) _ (xV (jl r j.plan.foot) (xM j.draw (xq j r).log.length) (if j.plan.told=true then qE j.pre 83 0 0 0++xX j r else qE j.pre 70 0 0 0) (if j.plan.told=true then [] else xX j r))=_
    rw [hfoot,hsec hn,if_neg (by rw [ht];decide),if_neg (by rw [ht];decide)]
    exact Ut _ _ _ _ (by omega)
   rw [e2]
   have hsh2:xQ (Qf j r).foot (Qf j r).parts (xX j r)=some (zm j r):=hsh
   simp only [hsh2]
theorem Nl {j:JobB} {r r2:List KeyB} {i:Nat} (h:GoodJ j r) (hi:i < j.table.length) (hk:(j.table[i]).key=0∨(js r2 (j.table[i]).key=true→jl r2 (j.table[i]).key=jl r (j.table[i]).key)) :
  xr j.pre r2 (zm j r) i=if 0 < (j.table[i]).key∧js r2 (j.table[i]).key=false then ⟨(j.table[i]).name,(j.table[i]).kind,(j.table[i]).key,1,[]⟩ else ⟨(j.table[i]).name,(j.table[i]).kind,(j.table[i]).key,0,(j.table[i]).cells⟩:=by
 have hca:je (zm j r).cols i=DR (j.table[i]):=by
  show je (zk j.table) i=_
  rw [Gq,zg hi]
 have hk9:=(h.table.head i hi).2.2
 unfold xr
 rw [hca]
 show (if 0 < (j.table[i]).key∧js r2 (j.table[i]).key=false then _ else _)=_
 by_cases hl:0 < (j.table[i]).key∧js r2 (j.table[i]).key=false
 ·rw [if_pos hl,if_pos hl]
  rfl
 ·rw [if_neg hl,if_neg hl]
  have hk2:(j.table[i]).key=0∨jl r2 (j.table[i]).key=jl r (j.table[i]).key:=by
   rcases hk with hk|hk
   ·exact .inl hk
   ·by_cases h0:(j.table[i]).key=0
    ·exact .inl h0
    ·refine .inr (hk ?_)
     cases hn:js r2 (j.table[i]).key with
     | true=>rfl
     | false=>exact absurd ⟨by omega,hn⟩ hl
  have hc:=Dg h hi hk2
  show (match jz j.pre r2 (j.table[i]).kind (j.table[i]).key i (some []) (qJ (zm j r)) (zm j r).mods with|none=>_|some cells=>_)=_
  rw [hc]
  rfl
end
section
open Go.RowKit
def SD:CellB:=⟨false,-77,[109,97,114,107]⟩
theorem Lies.cells {w:World} {b off:Nat} {l:List CellB} (h:∀ j (h:j < l.length),
  w.cell? ⟨b,off+j*3,none⟩=some (.bool (l[j]).null)∧w.cell? ⟨b,off+j*3+1,none⟩=some (.int .i64 (l[j]).int)∧w.cell? ⟨b,off+j*3+2,none⟩=some (strB (l[j]).text)) :
  ∀ i v,(jX l)[i]?=some v→w.cell? ((⟨b,off,none⟩:Addr).add i)=some v:=by
 intro i v hi
 have hil:i < (jX l).length:=(List.getElem?_eq_some_iff.1 hi).1
 rw [Jv] at hil
 have hj:i / 3 < l.length:=by omega
 obtain ⟨h1,h2,h3⟩:=h (i / 3) hj
 obtain ⟨c1,c2,c3⟩:=Zr l (i / 3) hj
 have ha:(⟨b,off,none⟩:Addr).add i=⟨b,off+i,none⟩:=by unfold Addr.add;split<;>simp_all
 rw [ha]
 have hm:i % 3=0∨i % 3=1∨i % 3=2:=by omega
 rcases hm with hm|hm|hm
 ·have e:i=i / 3*3:=by omega
  rw [e] at hi ⊢
  rw [c1] at hi
  rw [h1];exact hi
 ·have e:i=i / 3*3+1:=by omega
  rw [e] at hi ⊢
  rw [c2] at hi
  rw [← Nat.add_assoc,h2];exact hi
 ·have e:i=i / 3*3+2:=by omega
  rw [e] at hi ⊢
  rw [c3] at hi
  rw [← Nat.add_assoc,h3];exact hi
theorem NJ (l:List CellB):∀ v ∈ jX l,v.oneCell'=true:=by
 intro v hv
 simp only [jX,List.mem_flatMap] at hv
 obtain ⟨c,_,hc⟩:=hv
 simp at hc
 rcases hc with rfl|rfl|rfl<;>rfl
def LW:CellB:=⟨false,0,[]⟩
def Av (l:List CellB) (k:Nat):List CellB:=l++List.replicate k SD++List.replicate (8 - k) LW
theorem Az {W:World} {base g n:Nat} {l r:List CellB} (h:W.ownsRow base 58 3 (.slice (some ⟨g,0,none⟩) n n) n (jX (l++r))) (hok:∀ c ∈ l,okC c):Lies W (some ⟨g,0,none⟩) l:=by
 refine ⟨hok,fun hne=>⟨g,0,rfl,(h.lt g rfl).2,fun j hj=>?_⟩⟩
 have hn:=h.1
 rw [Jv,List.length_append] at hn
 obtain ⟨h1,h2,h3⟩:=Zr (l++r) j (by rw [List.length_append];omega)
 rw [List.getElem_append_left hj] at h1 h2 h3
 simp only [Nat.zero_add]
 exact ⟨by rw [h.cellAt (j*3) (by omega)];exact h1,by rw [h.cellAt (j*3+1) (by omega)];exact h2,by rw [h.cellAt (j*3+2) (by omega)];exact h3⟩
theorem Et (l:List CellB):Av l 8=l++List.replicate 8 SD:=by simp [Av]
end
end Go.Proofs.YthhpbhpfagoapaaGreat
