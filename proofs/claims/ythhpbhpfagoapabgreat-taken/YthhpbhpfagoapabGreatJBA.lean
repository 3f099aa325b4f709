import Derived.Test.YthhpbhpfagoapabGreatJBD
import Derived.Deep.RegionWith
namespace Go.Proofs.YthhpbhpfagoapabGreat
set_option linter.unusedVariables false
set_option linter.unusedSimpArgs false
set_option maxRecDepth 100000
set_option maxHeartbeats 16000000
open Go.RowKit
section
abbrev planV (p:PlanB):Value:=.agg #[.int .i64 p.group,.int .i64 p.page,.int .i64 p.foot,.bool p.told]
theorem NL {t:List ColB} (h:0 < t.length):qb t=(t[0]).cells.length:=by
 cases t with
 | nil=>simp at h
 | cons c t=>rfl
theorem Lt {t:List ColB} {k:Nat} (hk:k < t.length) (h:(qC (t[k]).kind (t[k]).cells && decide ((t[k]).cells.length=qb t))=false):xy t=false:=by
 have:(t.all fun c=>qC c.kind c.cells && decide (c.cells.length=qb t))=false:=by
  rw [List.all_eq_false]
  exact ⟨t[k],List.getElem_mem hk,by rw [h];simp⟩
 rw [xy,this,Bool.and_false]
/- Rings. -/
theorem Gp {r:List KeyB} {n:Nat} (h:XX r n=true) (hn:n≤r.length):∀ k (hk:k < n),Xh (r[k]'(by omega))=true∧jw (r.take k) (r[k]'(by omega)).number=false:=by
 induction n with
 | zero=>intro k hk;omega
 | succ n ih =>
  intro k hk
  simp only [XX,Bool.and_eq_true] at h
  rcases Nat.lt_or_ge k n with hkn|hkn
  ·exact ih h.1 (by omega) k hkn
  ·have:k=n:=by omega
   subst this
   have h2:=h.2
   rw [List.getElem?_eq_getElem (by omega)] at h2
   simpa using h2
theorem Pz {r:List KeyB} {k:Nat} (hk:k < r.length) (h:(Xh r[k] && !jw (r.take k) (r[k]).number)=false):xI r=false:=by
 cases hh:xI r with
 | false=>rfl
 | true =>
  obtain ⟨h1,h2⟩:=Gp hh (Nat.le_refl _) k hk
  rw [h1,h2] at h
  cases h
theorem DL {r:List KeyB} {k:Nat} (hk:k < r.length) (h:XX r k=true):XX r (k+1)=(Xh r[k] && !jw (r.take k) (r[k]).number):=by
 simp only [XX,h,Bool.true_and]
 rw [List.getElem?_eq_getElem hk]
theorem GF {r:List KeyB} {k m:Nat} (hm:m < r.length) (hk:m < k) (n:Int):jw ((r.take k).take (m+1)) n=(jw ((r.take k).take m) n || decide ((r[m]).number=n)):=by
 have hl:m < (r.take k).length:=by rw [List.length_take];omega
 rw [List.take_succ_eq_append_getElem hl]
 simp [jw]
theorem FG {c:KeyB} (h:Xh c=false):c.number < 1∨(¬ c.number < 1∧(9 < c.number∨(¬ 9 < c.number∧c.secret.length≠8))):=by
 simp only [Xh,Bool.and_eq_false_iff,decide_eq_false_iff_not] at h
 omega
theorem Ev {c:KeyB} (h:Xh c=true):1≤c.number∧c.number≤9∧c.secret.length=8:=by
 simp only [Xh,Bool.and_eq_true,decide_eq_true_eq] at h
 exact ⟨h.1.1,h.1.2,h.2⟩
theorem Bk {r:List KeyB} {k:Nat} {n:Int} (hk:k < r.length) (hno:jw (r.take k) n=false) (he:(r[k]).number=n):KW r n=some (r[k]).secret:=by
 have e:r=r.take k++r[k] :: r.drop (k+1):=by rw [← List.drop_eq_getElem_cons hk,List.take_append_drop]
 have h0:(r.take k).find? (fun x=>decide (x.number=n))=none:=by
  rw [List.find?_eq_none]
  intro x hx
  simp only [jw,List.any_eq_false] at hno
  exact hno x hx
 have h1:r.find? (fun x=>decide (x.number=n))=some r[k]:=by
  have h2:(r.take k++r[k] :: r.drop (k+1)).find? (fun x=>decide (x.number=n))=some r[k]:=by
   rw [List.find?_append,h0,List.find?_cons_of_pos (by simp [he])]
   rfl
  rwa [← e] at h2
 rw [KW,h1]
 rfl
theorem Es {r:List KeyB} {n:Int} (hno:jw r n=false):KW r n=none:=by
 have h0:r.find? (fun x=>decide (x.number=n))=none:=by
  rw [List.find?_eq_none]
  intro x hx
  simp only [jw,List.any_eq_false] at hno
  exact hno x hx
 simp [KW,h0]
end
section
abbrev jobV (v:Value) (j:JobB):Value:=.agg #[v,.int .i64 j.plan.group,.int .i64 j.plan.page,.int .i64 j.plan.foot,.bool j.plan.told,strB j.pre,.int .i64 j.draw]
structure LiesJ (w:World) (a:Option Addr) (cap:Nat) (j:JobB):Prop where
 table:LiesT w a j.table
 len:j.table.length≤maxLen
 cap_:j.table.length≤cap
 pre:j.pre.length≤maxLen
 draw:-9223372036854775808≤j.draw∧j.draw≤9223372036854775807
 group:-9223372036854775808≤j.plan.group∧j.plan.group≤9223372036854775807
 page:-9223372036854775808≤j.plan.page∧j.plan.page≤9223372036854775807
 foot:-9223372036854775808≤j.plan.foot∧j.plan.foot≤9223372036854775807
theorem LiesJ.later {w w':World} {a:Option Addr} {cap:Nat} {j:JobB} (h:LiesJ w a cap j) (hb:Below w.heap.size w w'):LiesJ w' a cap j :=
 ⟨h.table.later hb,h.len,h.cap_,h.pre,h.draw,h.group,h.page,h.foot⟩
def Gk (j:JobB):Bool:=qM j.plan && (decide (j.pre.length≤20) && (decide (0≤j.draw) && decide (j.draw≤65535)))
theorem ZD {r:List KeyB} {n:Int} (hr:xI r=true):(ji r n=[]) ↔ jw r n=false:=by
 constructor
 ·intro h
  cases hh:jw r n with
  | false=>rfl
  | true =>
   simp only [jw,List.any_eq_true] at hh
   cases hf:r.find? (fun k=>decide (k.number=n)) with
   | none =>
    rw [List.find?_eq_none] at hf
    obtain ⟨x,hx,hx2⟩:=hh
    exact absurd hx2 (hf x hx)
   | some x =>
    have hm:=List.mem_of_find?_eq_some hf
    obtain ⟨k,hk,rfl⟩:=List.mem_iff_getElem.1 hm
    have:=(Ev (Gp hr (Nat.le_refl _) k hk).1).2.2
    simp only [ji,KW,hf,Option.map_some,Option.getD_some] at h
    rw [h] at this
    simp at this
 ·intro h
  rw [ji,Es h];rfl
theorem Qk {r:List KeyB} {n:Int} (hr:xI r=true) (hn:jw r n=true):(ji r n).length=8:=by
 simp only [jw,List.any_eq_true] at hn
 cases hf:r.find? (fun k=>decide (k.number=n)) with
 | none =>
  rw [List.find?_eq_none] at hf
  obtain ⟨x,hx,hx2⟩:=hn
  exact absurd hx2 (hf x hx)
 | some x =>
  have hm:=List.mem_of_find?_eq_some hf
  obtain ⟨k,hk,rfl⟩:=List.mem_iff_getElem.1 hm
  have:=(Ev (Gp hr (Nat.le_refl _) k hk).1).2.2
  simp only [ji,KW,hf,Option.map_some,Option.getD_some]
  exact this
def BoxJ (w:World) (p:Nat) (v:Value) (j:JobB):Prop :=
 w.cell? ⟨p,0,none⟩=some v∧w.cell? ⟨p,1,none⟩=some (.int .i64 j.plan.group)∧w.cell? ⟨p,2,none⟩=some (.int .i64 j.plan.page)∧w.cell? ⟨p,3,none⟩=some (.int .i64 j.plan.foot)∧w.cell? ⟨p,4,none⟩=some (.bool j.plan.told)∧w.cell? ⟨p,5,none⟩=some (strB j.pre)∧w.cell? ⟨p,6,none⟩=some (.int .i64 j.draw)
theorem BoxJ.later {w w':World} {p:Nat} {v:Value} {j:JobB} (h:BoxJ w p v j) (hp:p < w.heap.size) (hb:Below w.heap.size w w'):BoxJ w' p v j:=by
 obtain ⟨h0,h1,h2,h3,h4,h5,h6⟩:=h
 exact ⟨(hb.cell (p:=⟨p,_,none⟩) hp).trans h0,(hb.cell (p:=⟨p,_,none⟩) hp).trans h1,(hb.cell (p:=⟨p,_,none⟩) hp).trans h2,(hb.cell (p:=⟨p,_,none⟩) hp).trans h3,(hb.cell (p:=⟨p,_,none⟩) hp).trans h4,(hb.cell (p:=⟨p,_,none⟩) hp).trans h5,(hb.cell (p:=⟨p,_,none⟩) hp).trans h6⟩
theorem NR (w:World) (v:Value) (j:JobB) (t:TypeId):BoxJ (w.alloc (.cells #[v,.int .i64 j.plan.group,.int .i64 j.plan.page,.int .i64 j.plan.foot,.bool j.plan.told,strB j.pre,.int .i64 j.draw] t)) w.heap.size v j:=by
 obtain ⟨_,_,h,_⟩:=jK w #[v,.int .i64 j.plan.group,.int .i64 j.plan.page,.int .i64 j.plan.foot,.bool j.plan.told,strB j.pre,.int .i64 j.draw] t
 exact ⟨h 0,h 1,h 2,h 3,h 4,h 5,h 6⟩
theorem Tj {a b:Bool} (h:(a=true) ↔ (b=true)):a=b:=by cases a<;>cases b<;>simp_all
end
end Go.Proofs.YthhpbhpfagoapabGreat
