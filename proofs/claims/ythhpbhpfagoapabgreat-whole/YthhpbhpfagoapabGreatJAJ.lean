import Derived.Test.YthhpbhpfagoapabGreatJAM
import Derived.Test.YthhpbhpfagoapabGreatJAL
import Derived.Test.YthhpbhpfagoapabGreatJAF
import Derived.Test.YthhpbhpfagoapabGreatJAK
import Derived.Test.YthhpbhpfagoapabGreatKHead
import Derived.Deep.RegionHeld3
import Derived.Deep.RegionWith
namespace Go.Proofs.YthhpbhpfagoapabGreat
set_option linter.unusedVariables false
set_option linter.unusedSimpArgs false
set_option maxRecDepth 100000
set_option maxHeartbeats 16000000
section
theorem Vt (raw:List Int) (pre:List UInt8) (c:Int) (hr:∀ x ∈ raw,Xy x):(zr (qo raw pre) (jV c 0)).length≤65000:=by
 have h:=JM raw pre c hr
 refine LK h ?_ ?_ ?_
 ·show (Qb raw (Jj raw)).length≤4
  rw [XE]
  exact (Ka raw).2
 ·have h1:qb (qo raw pre).table=((qo raw pre).table[0]'(by have:=h.table.few.1;omega)).cells.length:=NL h.table.few.1
  have h2:=Kc raw
  have e:(qo raw pre).table[0]'(by have:=h.table.few.1;omega)=Zv raw 0 (qB raw):=ZM raw (Jj raw) 0 _
  rw [h1,e]
  simp only [Zv,List.length_map,List.length_range]
  omega
 ·show (1+qj (atB raw 4) 6).toNat≤6
  have:=qD (atB raw 4) 6 (by decide)
  omega
theorem Cr (raw:List Int) (pre:List UInt8) (c without:Int) (trust:Bool) (hr:∀ x ∈ raw,Xy x) :
  xg (zr (qo raw pre) (jV c 0)) (qo raw pre).pre (jV c without) trust=if qK without 5=true∧¬ ((qo raw pre).plan.told=true∧trust=true) then (8,none) else (0,some (Je (qo raw pre) (jV c 0))):=by
 have hn:jw (jV c without) (qo raw pre).plan.foot=!qK without 5:=(XT c without).2.1 5 (by decide) (by decide)
 rw [Cd (JM raw pre c hr) (Vt raw pre c hr) (XT c without).1 (fun h=>Ei c without (show (1:Int)≤(qo raw pre).plan.foot from (by decide:(1:Int)≤5)) (show (qo raw pre).plan.foot≤5 from (by decide:(5:Int)≤5)) h),hn]
 cases qK without 5<;>simp
theorem RD (raw:List Int) (pre:List UInt8) (c without:Int) (hr:∀ x ∈ raw,Xy x) {i:Nat} (hi:i < (qo raw pre).table.length) :
  qi (qo raw pre).pre (jV c without) (Je (qo raw pre) (jV c 0)) i=if 0 < ((qo raw pre).table[i]).key∧qK without ((qo raw pre).table[i]).key.toNat=true then ⟨((qo raw pre).table[i]).name,((qo raw pre).table[i]).kind,((qo raw pre).table[i]).key,1,[]⟩ else ⟨((qo raw pre).table[i]).name,((qo raw pre).table[i]).kind,((qo raw pre).table[i]).key,0,((qo raw pre).table[i]).cells⟩:=by
 have h:=JM raw pre c hr
 have hk:0≤((qo raw pre).table[i]).key∧((qo raw pre).table[i]).key≤4:=by
  have e:(qo raw pre).table[i]=Zv raw i (qB raw):=ZM raw (Jj raw) i hi
  rw [e]
  have:=qD (atB raw (10+i)) 5 (by decide)
  simp only [Zv]
  omega
 rw [Cx h hi (by
  by_cases h0:((qo raw pre).table[i]).key=0
  ·exact .inl h0
  ·exact .inr (fun hn=>Ei c without (by omega) (by omega) hn))]
 by_cases h0:0 < ((qo raw pre).table[i]).key
 ·have hn:=(XT c without).2.1 ((qo raw pre).table[i]).key (by omega) (by omega)
  rw [hn]
  cases qK without ((qo raw pre).table[i]).key.toNat<;>simp
 ·rw [if_neg (fun h=>h0 h.1),if_neg (fun h=>h0 h.1)]
end
section
open Go.RowKit
theorem MD (raw:List Int) (pre:List UInt8) (c without:Int) (hr:∀ x ∈ raw,Xy x) :
  Ji (qi (qo raw pre).pre (jV c without) (Je (qo raw pre) (jV c 0))) (qo raw pre).table.length (qo raw pre).table=true:=by
 simp only [Ji,decide_true,Bool.true_and]
 rw [NH]
 intro k hk
 rw [RD raw pre c without hr hk,xz hk]
 split<;>exact ⟨rfl,rfl,rfl⟩
end
end Go.Proofs.YthhpbhpfagoapabGreat
