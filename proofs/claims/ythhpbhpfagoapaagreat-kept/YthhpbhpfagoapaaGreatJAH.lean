import Derived.Test.YthhpbhpfagoapaaGreatJAJ
import Derived.Test.YthhpbhpfagoapaaGreatWJob
import Derived.Test.YthhpbhpfagoapaaGreatJAK
import Derived.Test.YthhpbhpfagoapaaGreatJAA
import Derived.Test.YthhpbhpfagoapaaGreatJAY
import Derived.Test.YthhpbhpfagoapaaGreatKHead
import Derived.Deep.RegionHeld3
import Derived.Deep.RegionWith
namespace Go.Proofs.YthhpbhpfagoapaaGreat
set_option linter.unusedVariables false
set_option linter.unusedSimpArgs false
set_option maxRecDepth 100000
set_option maxHeartbeats 16000000
section
open Go.RowKit
theorem out_none (n:Nat):outB 0 n=false:=by
 have h:∀ x:Int,bits .and .i64 0 x=0:=by
  intro x
  show IntKind.i64.wrap ((BitVec.ofInt 64 0 &&& BitVec.ofInt 64 x).toNat:Nat)=0
  simp
  decide
 unfold outB
 rw [h]
 rfl
theorem ring_part (c without:Int):ringOkB (ringRaw c without)=true∧(∀ n:Int,1≤n→n≤5→hasNumB (ringRaw c without) n=!outB without n.toNat)∧(∀ n:Int,1≤n→n≤5→outB without n.toNat=false→secretB (ringRaw c without) n=rawSecB c n.toNat)∧(ringRaw c without).length≤5∧∀ x ∈ ringRaw c without,okKey x:=by
 have e:ringRaw c without=((((if outB without 1=true then [] else [(⟨1,rawSecB c 1⟩:KeyB)])++(if outB without 2=true then [] else [⟨2,rawSecB c 2⟩]))++(if outB without 3=true then [] else [⟨3,rawSecB c 3⟩]))++(if outB without 4=true then [] else [⟨4,rawSecB c 4⟩]))++(if outB without 5=true then [] else [⟨5,rawSecB c 5⟩]):=by
  simp only [ringRaw,ringB,List.map_append,List.nil_append]
  cases outB without 1<;>cases outB without 2<;>cases outB without 3<;>cases outB without 4<;>cases outB without 5<;>simp
 have l:=fun n=>rawSecB_length c n
 rw [e]
 refine ⟨?_,?_,?_,?_,?_⟩
 ·cases outB without 1<;>cases outB without 2<;>cases outB without 3<;>cases outB without 4<;>cases outB without 5<;>simp [ringOkB,ringTo,keyOkB,hasNumB,l]
 ·intro n h1 h5
  have:n=1∨n=2∨n=3∨n=4∨n=5:=by omega
  rcases this with rfl|rfl|rfl|rfl|rfl
  ·show _=!outB without 1
   cases outB without 1<;>cases outB without 2<;>cases outB without 3<;>cases outB without 4<;>cases outB without 5<;>simp [hasNumB]
  ·show _=!outB without 2
   cases outB without 1<;>cases outB without 2<;>cases outB without 3<;>cases outB without 4<;>cases outB without 5<;>simp [hasNumB]
  ·show _=!outB without 3
   cases outB without 1<;>cases outB without 2<;>cases outB without 3<;>cases outB without 4<;>cases outB without 5<;>simp [hasNumB]
  ·show _=!outB without 4
   cases outB without 1<;>cases outB without 2<;>cases outB without 3<;>cases outB without 4<;>cases outB without 5<;>simp [hasNumB]
  ·show _=!outB without 5
   cases outB without 1<;>cases outB without 2<;>cases outB without 3<;>cases outB without 4<;>cases outB without 5<;>simp [hasNumB]
 ·intro n h1 h5 ho
  have:n=1∨n=2∨n=3∨n=4∨n=5:=by omega
  rcases this with rfl|rfl|rfl|rfl|rfl
  ·have ho':outB without 1=false:=ho
   show _=rawSecB c 1
   rw [ho']
   cases outB without 2<;>cases outB without 3<;>cases outB without 4<;>cases outB without 5<;>simp [secretB,findB]
  ·have ho':outB without 2=false:=ho
   show _=rawSecB c 2
   rw [ho']
   cases outB without 1<;>cases outB without 3<;>cases outB without 4<;>cases outB without 5<;>simp [secretB,findB]
  ·have ho':outB without 3=false:=ho
   show _=rawSecB c 3
   rw [ho']
   cases outB without 1<;>cases outB without 2<;>cases outB without 4<;>cases outB without 5<;>simp [secretB,findB]
  ·have ho':outB without 4=false:=ho
   show _=rawSecB c 4
   rw [ho']
   cases outB without 1<;>cases outB without 2<;>cases outB without 3<;>cases outB without 5<;>simp [secretB,findB]
  ·have ho':outB without 5=false:=ho
   show _=rawSecB c 5
   rw [ho']
   cases outB without 1<;>cases outB without 2<;>cases outB without 3<;>cases outB without 4<;>simp [secretB,findB]
 ·cases outB without 1<;>cases outB without 2<;>cases outB without 3<;>cases outB without 4<;>cases outB without 5<;>simp
 ·intro x hx
  have hx2:x=⟨1,rawSecB c 1⟩∨x=⟨2,rawSecB c 2⟩∨x=⟨3,rawSecB c 3⟩∨x=⟨4,rawSecB c 4⟩∨x=⟨5,rawSecB c 5⟩:=by
   simp only [List.mem_append] at hx
   rcases hx with (((hx|hx)|hx)|hx)|hx<;>split at hx<;>simp at hx<;>simp [hx]
  rcases hx2 with rfl|rfl|rfl|rfl|rfl<;>exact ⟨by rw [l];decide,by dsimp only;omega,by dsimp only;omega⟩
theorem ring_same (c without:Int) {n:Int} (h1:1≤n) (h5:n≤5) (h:hasNumB (ringRaw c without) n=true):secretB (ringRaw c without) n=secretB (ringRaw c 0) n:=by
 have ho:outB without n.toNat=false:=by
  have:=(ring_part c without).2.1 n h1 h5
  rw [h] at this
  cases hq:outB without n.toNat with
  | false=>rfl
  | true=>rw [hq] at this;cases this
 rw [(ring_part c without).2.2.1 n h1 h5 ho,(ring_part c 0).2.2.1 n h1 h5 (out_none _)]
end
section
theorem raw_few (raw:List Int) (pre:List UInt8) (c:Int) (hr:∀ x ∈ raw,inI64 x):(fileB (jobRaw raw pre) (ringRaw c 0)).length≤65000:=by
 have h:=good_jobRaw raw pre c hr
 refine file_few h ?_ ?_ ?_
 ·show (tableRaw raw (colsRaw raw)).length≤4
  rw [tableRaw_length]
  exact (colsRaw_range raw).2
 ·have h1:rowsB (jobRaw raw pre).table=((jobRaw raw pre).table[0]'(by have:=h.table.few.1;omega)).cells.length:=rowsB_eq h.table.few.1
  have h2:=rowsRaw_range raw
  have e:(jobRaw raw pre).table[0]'(by have:=h.table.few.1;omega)=colRaw raw 0 (rowsRaw raw):=tableRaw_at raw (colsRaw raw) 0 _
  rw [h1,e]
  simp only [colRaw,List.length_map,List.length_range]
  omega
 ·show (1+pickB (atB raw 4) 6).toNat≤6
  have:=pickB_range (atB raw 4) 6 (by decide)
  omega
theorem kept_sheet (raw:List Int) (pre:List UInt8) (c without:Int) (trust:Bool) (hr:∀ x ∈ raw,inI64 x) :
  sheetF (fileB (jobRaw raw pre) (ringRaw c 0)) (jobRaw raw pre).pre (ringRaw c without) trust=if outB without 5=true∧¬ ((jobRaw raw pre).plan.told=true∧trust=true) then (8,none) else (0,some (sheetJ (jobRaw raw pre) (ringRaw c 0))):=by
 have hn:hasNumB (ringRaw c without) (jobRaw raw pre).plan.foot=!outB without 5:=(ring_part c without).2.1 5 (by decide) (by decide)
 rw [sheet_kept (good_jobRaw raw pre c hr) (raw_few raw pre c hr) (ring_part c without).1 (fun h=>ring_same c without (show (1:Int)≤(jobRaw raw pre).plan.foot from (by decide:(1:Int)≤5)) (show (jobRaw raw pre).plan.foot≤5 from (by decide:(5:Int)≤5)) h),hn]
 cases outB without 5<;>simp
theorem kept_found (raw:List Int) (pre:List UInt8) (c without:Int) (hr:∀ x ∈ raw,inI64 x) {i:Nat} (hi:i < (jobRaw raw pre).table.length) :
  foundF (jobRaw raw pre).pre (ringRaw c without) (sheetJ (jobRaw raw pre) (ringRaw c 0)) i=if 0 < ((jobRaw raw pre).table[i]).key∧outB without ((jobRaw raw pre).table[i]).key.toNat=true then ⟨((jobRaw raw pre).table[i]).name,((jobRaw raw pre).table[i]).kind,((jobRaw raw pre).table[i]).key,1,[]⟩ else ⟨((jobRaw raw pre).table[i]).name,((jobRaw raw pre).table[i]).kind,((jobRaw raw pre).table[i]).key,0,((jobRaw raw pre).table[i]).cells⟩:=by
 have h:=good_jobRaw raw pre c hr
 have hk:0≤((jobRaw raw pre).table[i]).key∧((jobRaw raw pre).table[i]).key≤4:=by
  have e:(jobRaw raw pre).table[i]=colRaw raw i (rowsRaw raw):=tableRaw_at raw (colsRaw raw) i hi
  rw [e]
  have:=pickB_range (atB raw (10+i)) 5 (by decide)
  simp only [colRaw]
  omega
 rw [found_kept h hi (by
  by_cases h0:((jobRaw raw pre).table[i]).key=0
  ·exact .inl h0
  ·exact .inr (fun hn=>ring_same c without (by omega) (by omega) hn))]
 by_cases h0:0 < ((jobRaw raw pre).table[i]).key
 ·have hn:=(ring_part c without).2.1 ((jobRaw raw pre).table[i]).key (by omega) (by omega)
  rw [hn]
  cases outB without ((jobRaw raw pre).table[i]).key.toNat<;>simp
 ·rw [if_neg (fun h=>h0 h.1),if_neg (fun h=>h0 h.1)]
end
section
open Go.RowKit
theorem ringW_any (c without:Int) (w:World) (p:Nat) (tv:Value) (j:JobB) (h0:-9223372036854775808≤c) (h1:c≤9223372036854775807) (hp:p < w.heap.size) (hb:Box7 p tv j w) :
  Calls Tryz.prog 29 #[.int .i64 c,.int .i64 without] w.drew fun e w'=>∃ ra rcap,e=.returned (.slice ra (ringRaw c without).length rcap)∧LiesK w' ra (ringRaw c without)∧Below w.heap.size w w'∧Box7 p tv j w':=by
 refine (ring_any c without w.drew h0 h1).mono ?_
 rintro e w5 ⟨rv,rfl,hrv,hb5⟩
 have hb5':Below w.heap.size w w5:=below_undrew hb5
 obtain ⟨ra,rcap,rfl,hrl⟩:=ring_lies hrv (ring_part c without).2.2.2.2
 exact ⟨ra,rcap,rfl,hrl,hb5',box7_later hb hp hb5'⟩
def shutB (told trust:Bool) (without:Int):Bool:=outB without 5 && !(told && trust)
theorem shut_yes {told trust:Bool} {without:Int} (h:shutB told trust without=true):outB without 5=true∧(told=false∨(told=true∧trust=false)):=by
 unfold shutB at h
 cases h1:outB without 5<;>cases told<;>cases trust<;>rw [h1] at h<;>first|(exact absurd h (by decide))|simp
theorem shut_no {told trust:Bool} {without:Int} (h:shutB told trust without=false):outB without 5=false∨(outB without 5=true∧told=true∧trust=true):=by
 unfold shutB at h
 cases h1:outB without 5<;>cases told<;>cases trust<;>rw [h1] at h<;>first|(exact absurd h (by decide))|simp
theorem out5 (without:Int):outB without 5=(bits .and .i64 without 32 != 0):=by
 unfold outB
 rw [show wrap64 (2 ^ 5)=32 by decide +kernel]
theorem kept_read (raw:List Int) (pre:List UInt8) (c without:Int) (trust:Bool) (hr:∀ x ∈ raw,inI64 x) (ra:Option Addr) (rcap:Nat) (w:World) (hl:LiesK w ra (ringRaw c without)) :
  Calls Tryz.prog 30 #[strB (fileB (jobRaw raw pre) (ringRaw c 0)),strB (jobRaw raw pre).pre,.slice ra (ringRaw c without).length rcap,.bool trust] w fun e w'=>Below w.heap.size w w' ∧
   ((shutB (jobRaw raw pre).plan.told trust without=true∧e=.returned (.tuple #[.slice none 0 0,.int .i64 8])) ∨
    (shutB (jobRaw raw pre).plan.told trust without=false∧∃ la lc,e=.returned (.tuple #[.slice la (jobRaw raw pre).table.length lc,.int .i64 0])∧LiesF w' la (foundF (jobRaw raw pre).pre (ringRaw c without) (sheetJ (jobRaw raw pre) (ringRaw c 0))) (jobRaw raw pre).table.length)):=by
 have hf:=raw_few raw pre c hr
 have hp:=(good_jobRaw raw pre c hr).pre
 have h5:=(ring_part c without).2.2.2.1
 have hk:=kept_sheet raw pre c without trust hr
 have hsh:=found_short (fileB (jobRaw raw pre) (ringRaw c 0)) (jobRaw raw pre).pre (ringRaw c without) trust
 refine (readP_any _ _ ra rcap (ringRaw c without) trust w (by unfold maxLen;omega) (by unfold maxLen;omega) (by unfold maxLen;omega) hl).mono ?_
 rintro e w' ⟨hb,⟨err,hs,hne,he⟩|⟨S,v,Vs,hs,he,hfa⟩⟩
 ·refine ⟨hb,.inl ?_⟩
  rw [hk] at hs
  split at hs
  ·rename_i hc
   simp only [Prod.mk.injEq,and_true] at hs
   refine ⟨?_,by rw [he,hs]⟩
   simp only [shutB,hc.1,Bool.true_and]
   have:=hc.2
   cases h1:(jobRaw raw pre).plan.told<;>cases h2:trust<;>simp_all
  ·simp at hs
 ·refine ⟨hb,.inr ?_⟩
  obtain ⟨_,hs2⟩:=hsh S hs
  rw [hk] at hs
  split at hs
  ·simp at hs
  ·rename_i hc
   simp only [Prod.mk.injEq,Option.some.injEq,true_and] at hs
   subst hs
   have hlen:(sheetJ (jobRaw raw pre) (ringRaw c 0)).cols.length=(jobRaw raw pre).table.length:=by
    show (bareT (jobRaw raw pre).table).length=_
    simp [bareT]
   refine ⟨?_,?_⟩
   ·cases h0:outB without 5<;>cases h1:(jobRaw raw pre).plan.told<;>cases h2:trust<;>simp_all [shutB]
   ·obtain ⟨la,lc,hv,hlf⟩:=hfa.lies hs2
    rw [hlen] at hv hlf
    exact ⟨la,lc,by rw [he,hv],hlf⟩
theorem kept_heads (raw:List Int) (pre:List UInt8) (c without:Int) (hr:∀ x ∈ raw,inI64 x) :
  headedF (foundF (jobRaw raw pre).pre (ringRaw c without) (sheetJ (jobRaw raw pre) (ringRaw c 0))) (jobRaw raw pre).table.length (jobRaw raw pre).table=true:=by
 simp only [headedF,decide_true,Bool.true_and]
 rw [headsF_iff]
 intro k hk
 rw [kept_found raw pre c without hr hk,colAt_eq hk]
 split<;>exact ⟨rfl,rfl,rfl⟩
end
end Go.Proofs.YthhpbhpfagoapaaGreat
