import Derived.Test.YthhpbhpfagoapabGreatJAS
import Derived.Test.YthhpbhpfagoapabGreatJAN
import Derived.Deep.DeepCutAuto
namespace Go.Proofs.YthhpbhpfagoapabGreat
set_option linter.unusedVariables false
set_option linter.unusedSimpArgs false
set_option maxRecDepth 100000
set_option maxHeartbeats 16000000
open Go.RowKit
structure Vals (w:World) (a:Option Addr) (l:List CellB):Prop where
 lies:Lies w a l
 small:∀ c ∈ l,qF c
 few:l.length≤60
theorem Vals.later {w w':World} {a:Option Addr} {l:List CellB} (h:Vals w a l) (hb:Below w.heap.size w w'):Vals w' a l:=⟨h.lies.later hb,h.small,h.few⟩
def Holds3 (w:World) (g:Nat) (c:CellB):Prop :=
 w.cell? ⟨g,0,none⟩=some (.bool c.null)∧w.cell? ⟨g,1,none⟩=some (.int .i64 c.int)∧w.cell? ⟨g,2,none⟩=some (strB c.text)
theorem Holds3.later {w w':World} {g:Nat} {c:CellB} (h:Holds3 w g c) (hg:g < w.heap.size) (hb:Below w.heap.size w w'):Holds3 w' g c :=
 ⟨(hb.cell (p:=⟨g,_,none⟩) hg).trans h.1,(hb.cell (p:=⟨g,_,none⟩) hg).trans h.2.1,(hb.cell (p:=⟨g,_,none⟩) hg).trans h.2.2⟩
end Go.Proofs.YthhpbhpfagoapabGreat
