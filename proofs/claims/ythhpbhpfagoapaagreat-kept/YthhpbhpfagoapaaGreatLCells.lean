import Derived.Test.YthhpbhpfagoapaaGreatJAO
import Derived.Laws.CopyOwn
import Derived.OwnWalk
import Derived.Deep.QuietTactic
import Derived.BigQuiet
import Derived.WalkSmall
import Derived.Deep.RegionWith
namespace Go.Proofs.YthhpbhpfagoapaaGreat
set_option linter.unusedVariables false
set_option linter.unusedSimpArgs false
set_option maxRecDepth 100000
set_option maxHeartbeats 16000000
open Go.RowKit
theorem Lies.cells {w:World} {b off:Nat} {l:List CellB} (h:∀ j (h:j < l.length),
  w.cell? ⟨b,off+j*3,none⟩=some (.bool (l[j]).null)∧w.cell? ⟨b,off+j*3+1,none⟩=some (.int .i64 (l[j]).int)∧w.cell? ⟨b,off+j*3+2,none⟩=some (strB (l[j]).text)) :
  ∀ i v,(cellsC l)[i]?=some v→w.cell? ((⟨b,off,none⟩:Addr).add i)=some v:=by
 intro i v hi
 have hil:i < (cellsC l).length:=(List.getElem?_eq_some_iff.1 hi).1
 rw [cellsC_length] at hil
 have hj:i / 3 < l.length:=by omega
 obtain ⟨h1,h2,h3⟩:=h (i / 3) hj
 obtain ⟨c1,c2,c3⟩:=cellsC_at l (i / 3) hj
 have ha:(⟨b,off,none⟩:Addr).add i=⟨b,off+i,none⟩:=by unfold Addr.add;split<;>simp_all
 rw [ha]
 have hm:i % 3=0∨i % 3=1∨i % 3=2:=by omega
 rcases hm with hm|hm|hm
 ·have e:i=i / 3*3:=by omega
  rw [e] at hi ⊢
  rw [c1] at hi
  rw [h1];exact hi
 ·have e:i=i / 3*3+1:=by omega
  rw [e] at hi ⊢
  rw [c2] at hi
  rw [← Nat.add_assoc,h2];exact hi
 ·have e:i=i / 3*3+2:=by omega
  rw [e] at hi ⊢
  rw [c3] at hi
  rw [← Nat.add_assoc,h3];exact hi
theorem cellsC_one (l:List CellB):∀ v ∈ cellsC l,v.oneCell'=true:=by
 intro v hv
 simp only [cellsC,List.mem_flatMap] at hv
 obtain ⟨c,_,hc⟩:=hv
 simp at hc
 rcases hc with rfl|rfl|rfl<;>rfl
end Go.Proofs.YthhpbhpfagoapaaGreat
