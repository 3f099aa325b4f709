import Derived.Test.YthhpbhpfagoapaaGreatWSeal
import Derived.Test.YthhpbhpfagoapaaGreatJAP
import Derived.Test.YthhpbhpfagoapaaGreatJAU
import Derived.Deep.CutBlock
namespace Go.Proofs.YthhpbhpfagoapaaGreat
set_option linter.unusedVariables false
set_option linter.unusedSimpArgs false
set_option maxRecDepth 100000
set_option maxHeartbeats 16000000
open Go.RowKit
theorem Lies.part {w:World} {b off:Nat} {l:List CellB} (hok:∀ c ∈ l,okC c) (hb:b < w.heap.size) (h:∀ j (h:j < l.length),
  w.cell? ⟨b,off+j*3,none⟩=some (.bool (l[j]).null)∧w.cell? ⟨b,off+j*3+1,none⟩=some (.int .i64 (l[j]).int)∧w.cell? ⟨b,off+j*3+2,none⟩=some (strB (l[j]).text)) (s n:Nat) :
  Lies w (some ⟨b,off+s*3,none⟩) ((l.drop s).take n):=by
 refine ⟨fun c hc=>hok c (List.mem_of_mem_drop (List.mem_of_mem_take hc)),fun hne=>⟨b,off+s*3,rfl,hb,fun j hj=>?_⟩⟩
 have hj2:s+j < l.length:=by rw [List.length_take,List.length_drop] at hj;omega
 have e:((l.drop s).take n)[j]=l[s+j]:=by simp
 obtain ⟨h1,h2,h3⟩:=h (s+j) hj2
 rw [e,show off+s*3+j*3=off+(s+j)*3 by omega]
 exact ⟨h1,h2,h3⟩
theorem Cz (n size m k:Nat) (hk:k < m):(QD n size m)[k*2]?=some (.int .i64 ((k*size:Nat):Int))∧(QD n size m)[k*2+1]?=some (.int .i64 ((min (k*size+size) n:Nat):Int)):=by
 have h1:=Xj (GP n size) 2 (fun _=>rfl) (List.range m) k 0 (by simpa using hk) (by decide)
 have h2:=Xj (GP n size) 2 (fun _=>rfl) (List.range m) k 1 (by simpa using hk) (by decide)
 simp only [List.getElem_range] at h1 h2
 exact ⟨h1,h2⟩
theorem EV {w:World} {base n size m k:Nat} {sa:Option Addr} {sc:Nat} (h:w.ownsRow base 290 2 (.slice sa m sc) m (QD n size m)) (hk:k < m) :
  ∃ g,sa=some ⟨g,0,none⟩∧g < w.heap.size∧w.cell? ⟨g,k*2,none⟩=some (.int .i64 ((k*size:Nat):Int))∧w.cell? ⟨g,k*2+1,none⟩=some (.int .i64 ((min (k*size+size) n:Nat):Int)):=by
 obtain ⟨s1,s2⟩:=Cz n size m k hk
 rcases h.2 with ⟨h0,h1⟩|⟨g,cap,cur,hv,_⟩
 ·omega
 ·simp only [Value.slice.injEq] at hv
  obtain ⟨rfl,_,rfl⟩:=hv
  exact ⟨g,rfl,(h.lt g rfl).2,by rw [h.cellAt _ (by omega)];exact s1,by rw [h.cellAt _ (by omega)];exact s2⟩
theorem Bg {w:World} {q:Nat} {x y:Value} {t:TypeId} (h:w.heap[q]?=some (.cells #[x,y] t (0,0))):w.cell? ⟨q,0,none⟩=some x∧w.cell? ⟨q,1,none⟩=some y :=
 ⟨by rw [jd h];rfl,by rw [jd h];rfl⟩
end Go.Proofs.YthhpbhpfagoapaaGreat
