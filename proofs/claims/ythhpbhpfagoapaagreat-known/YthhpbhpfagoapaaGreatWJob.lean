import Derived.Test.YthhpbhpfagoapaaGreatWTab
namespace Go.Proofs.YthhpbhpfagoapaaGreat
set_option linter.unusedVariables false
set_option linter.unusedSimpArgs false
set_option maxRecDepth 100000
set_option maxHeartbeats 16000000
open Go.RowKit
abbrev jobV (v:Value) (j:JobB):Value:=.agg #[v,.int .i64 j.plan.group,.int .i64 j.plan.page,.int .i64 j.plan.foot,.bool j.plan.told,strB j.pre,.int .i64 j.draw]
structure LiesJ (w:World) (a:Option Addr) (cap:Nat) (j:JobB):Prop where
 table:LiesT w a j.table
 len:j.table.length≤maxLen
 cap_:j.table.length≤cap
 pre:j.pre.length≤maxLen
 draw:-9223372036854775808≤j.draw∧j.draw≤9223372036854775807
 group:-9223372036854775808≤j.plan.group∧j.plan.group≤9223372036854775807
 page:-9223372036854775808≤j.plan.page∧j.plan.page≤9223372036854775807
 foot:-9223372036854775808≤j.plan.foot∧j.plan.foot≤9223372036854775807
theorem LiesJ.later {w w':World} {a:Option Addr} {cap:Nat} {j:JobB} (h:LiesJ w a cap j) (hb:Below w.heap.size w w'):LiesJ w' a cap j :=
 ⟨h.table.later hb,h.len,h.cap_,h.pre,h.draw,h.group,h.page,h.foot⟩
def planB2 (j:JobB):Bool:=planOkB j.plan && (decide (j.pre.length≤20) && (decide (0≤j.draw) && decide (j.draw≤65535)))
theorem secret_none {r:List KeyB} {n:Int} (hr:ringOkB r=true):(secretB r n=[]) ↔ hasNumB r n=false:=by
 constructor
 ·intro h
  cases hh:hasNumB r n with
  | false=>rfl
  | true =>
   simp only [hasNumB,List.any_eq_true] at hh
   cases hf:r.find? (fun k=>decide (k.number=n)) with
   | none =>
    rw [List.find?_eq_none] at hf
    obtain ⟨x,hx,hx2⟩:=hh
    exact absurd hx2 (hf x hx)
   | some x =>
    have hm:=List.mem_of_find?_eq_some hf
    obtain ⟨k,hk,rfl⟩:=List.mem_iff_getElem.1 hm
    have:=(key_parts (ringTo_at hr (Nat.le_refl _) k hk).1).2.2
    simp only [secretB,findB,hf,Option.map_some,Option.getD_some] at h
    rw [h] at this
    simp at this
 ·intro h
  rw [secretB,find_none h];rfl
theorem secret_len {r:List KeyB} {n:Int} (hr:ringOkB r=true) (hn:hasNumB r n=true):(secretB r n).length=8:=by
 simp only [hasNumB,List.any_eq_true] at hn
 cases hf:r.find? (fun k=>decide (k.number=n)) with
 | none =>
  rw [List.find?_eq_none] at hf
  obtain ⟨x,hx,hx2⟩:=hn
  exact absurd hx2 (hf x hx)
 | some x =>
  have hm:=List.mem_of_find?_eq_some hf
  obtain ⟨k,hk,rfl⟩:=List.mem_iff_getElem.1 hm
  have:=(key_parts (ringTo_at hr (Nat.le_refl _) k hk).1).2.2
  simp only [secretB,findB,hf,Option.map_some,Option.getD_some]
  exact this
def BoxJ (w:World) (p:Nat) (v:Value) (j:JobB):Prop :=
 w.cell? ⟨p,0,none⟩=some v∧w.cell? ⟨p,1,none⟩=some (.int .i64 j.plan.group)∧w.cell? ⟨p,2,none⟩=some (.int .i64 j.plan.page)∧w.cell? ⟨p,3,none⟩=some (.int .i64 j.plan.foot)∧w.cell? ⟨p,4,none⟩=some (.bool j.plan.told)∧w.cell? ⟨p,5,none⟩=some (strB j.pre)∧w.cell? ⟨p,6,none⟩=some (.int .i64 j.draw)
theorem BoxJ.later {w w':World} {p:Nat} {v:Value} {j:JobB} (h:BoxJ w p v j) (hp:p < w.heap.size) (hb:Below w.heap.size w w'):BoxJ w' p v j:=by
 obtain ⟨h0,h1,h2,h3,h4,h5,h6⟩:=h
 exact ⟨(hb.cell (p:=⟨p,_,none⟩) hp).trans h0,(hb.cell (p:=⟨p,_,none⟩) hp).trans h1,(hb.cell (p:=⟨p,_,none⟩) hp).trans h2,(hb.cell (p:=⟨p,_,none⟩) hp).trans h3,(hb.cell (p:=⟨p,_,none⟩) hp).trans h4,(hb.cell (p:=⟨p,_,none⟩) hp).trans h5,(hb.cell (p:=⟨p,_,none⟩) hp).trans h6⟩
theorem boxJ_new (w:World) (v:Value) (j:JobB) (t:TypeId):BoxJ (w.alloc (.cells #[v,.int .i64 j.plan.group,.int .i64 j.plan.page,.int .i64 j.plan.foot,.bool j.plan.told,strB j.pre,.int .i64 j.draw] t)) w.heap.size v j:=by
 obtain ⟨_,_,h,_⟩:=boxedW w #[v,.int .i64 j.plan.group,.int .i64 j.plan.page,.int .i64 j.plan.foot,.bool j.plan.told,strB j.pre,.int .i64 j.draw] t
 exact ⟨h 0,h 1,h 2,h 3,h 4,h 5,h 6⟩
theorem bool_eq {a b:Bool} (h:(a=true) ↔ (b=true)):a=b:=by cases a<;>cases b<;>simp_all
end Go.Proofs.YthhpbhpfagoapaaGreat
