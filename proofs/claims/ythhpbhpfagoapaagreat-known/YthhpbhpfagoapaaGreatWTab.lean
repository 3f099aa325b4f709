import Derived.Test.YthhpbhpfagoapaaGreatWName
import Derived.Deep.RegionWith
namespace Go.Proofs.YthhpbhpfagoapaaGreat
set_option linter.unusedVariables false
set_option linter.unusedSimpArgs false
set_option maxRecDepth 100000
set_option maxHeartbeats 16000000
open Go.RowKit
abbrev planV (p:PlanB):Value:=.agg #[.int .i64 p.group,.int .i64 p.page,.int .i64 p.foot,.bool p.told]
theorem rowsB_eq {t:List ColB} (h:0 < t.length):rowsB t=(t[0]).cells.length:=by
 cases t with
 | nil=>simp at h
 | cons c t=>rfl
theorem table_no {t:List ColB} {k:Nat} (hk:k < t.length) (h:(cellsOkB (t[k]).kind (t[k]).cells && decide ((t[k]).cells.length=rowsB t))=false):tableOkB t=false:=by
 have:(t.all fun c=>cellsOkB c.kind c.cells && decide (c.cells.length=rowsB t))=false:=by
  rw [List.all_eq_false]
  exact ⟨t[k],List.getElem_mem hk,by rw [h];simp⟩
 rw [tableOkB,this,Bool.and_false]
/- Rings. -/
theorem ringTo_at {r:List KeyB} {n:Nat} (h:ringTo r n=true) (hn:n≤r.length):∀ k (hk:k < n),keyOkB (r[k]'(by omega))=true∧hasNumB (r.take k) (r[k]'(by omega)).number=false:=by
 induction n with
 | zero=>intro k hk;omega
 | succ n ih =>
  intro k hk
  simp only [ringTo,Bool.and_eq_true] at h
  rcases Nat.lt_or_ge k n with hkn|hkn
  ·exact ih h.1 (by omega) k hkn
  ·have:k=n:=by omega
   subst this
   have h2:=h.2
   rw [List.getElem?_eq_getElem (by omega)] at h2
   simpa using h2
theorem ringTo_no {r:List KeyB} {k:Nat} (hk:k < r.length) (h:(keyOkB r[k] && !hasNumB (r.take k) (r[k]).number)=false):ringOkB r=false:=by
 cases hh:ringOkB r with
 | false=>rfl
 | true =>
  obtain ⟨h1,h2⟩:=ringTo_at hh (Nat.le_refl _) k hk
  rw [h1,h2] at h
  cases h
theorem ringTo_succ {r:List KeyB} {k:Nat} (hk:k < r.length) (h:ringTo r k=true):ringTo r (k+1)=(keyOkB r[k] && !hasNumB (r.take k) (r[k]).number):=by
 simp only [ringTo,h,Bool.true_and]
 rw [List.getElem?_eq_getElem hk]
theorem hasNum_succ {r:List KeyB} {k m:Nat} (hm:m < r.length) (hk:m < k) (n:Int):hasNumB ((r.take k).take (m+1)) n=(hasNumB ((r.take k).take m) n || decide ((r[m]).number=n)):=by
 have hl:m < (r.take k).length:=by rw [List.length_take];omega
 rw [List.take_succ_eq_append_getElem hl]
 simp [hasNumB]
theorem key_no {c:KeyB} (h:keyOkB c=false):c.number < 1∨(¬ c.number < 1∧(9 < c.number∨(¬ 9 < c.number∧c.secret.length≠8))):=by
 simp only [keyOkB,Bool.and_eq_false_iff,decide_eq_false_iff_not] at h
 omega
theorem key_parts {c:KeyB} (h:keyOkB c=true):1≤c.number∧c.number≤9∧c.secret.length=8:=by
 simp only [keyOkB,Bool.and_eq_true,decide_eq_true_eq] at h
 exact ⟨h.1.1,h.1.2,h.2⟩
theorem find_at {r:List KeyB} {k:Nat} {n:Int} (hk:k < r.length) (hno:hasNumB (r.take k) n=false) (he:(r[k]).number=n):findB r n=some (r[k]).secret:=by
 have e:r=r.take k++r[k] :: r.drop (k+1):=by rw [← List.drop_eq_getElem_cons hk,List.take_append_drop]
 have h0:(r.take k).find? (fun x=>decide (x.number=n))=none:=by
  rw [List.find?_eq_none]
  intro x hx
  simp only [hasNumB,List.any_eq_false] at hno
  exact hno x hx
 have h1:r.find? (fun x=>decide (x.number=n))=some r[k]:=by
  have h2:(r.take k++r[k] :: r.drop (k+1)).find? (fun x=>decide (x.number=n))=some r[k]:=by
   rw [List.find?_append,h0,List.find?_cons_of_pos (by simp [he])]
   rfl
  rwa [← e] at h2
 rw [findB,h1]
 rfl
theorem find_none {r:List KeyB} {n:Int} (hno:hasNumB r n=false):findB r n=none:=by
 have h0:r.find? (fun x=>decide (x.number=n))=none:=by
  rw [List.find?_eq_none]
  intro x hx
  simp only [hasNumB,List.any_eq_false] at hno
  exact hno x hx
 simp [findB,h0]
end Go.Proofs.YthhpbhpfagoapaaGreat
