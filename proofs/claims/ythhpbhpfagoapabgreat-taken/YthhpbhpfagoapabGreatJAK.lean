import Derived.Test.YthhpbhpfagoapabGreatJAM
import Derived.Test.YthhpbhpfagoapabGreatJAO
import Derived.Deep.QuietTactic
import Derived.BigQuiet
import Derived.WalkSmall
import Derived.Lib.Strings
import Derived.Deep.DeepCutAuto
import Derived.Deep.RegionHeld3
namespace Go.Proofs.YthhpbhpfagoapabGreat
set_option linter.unusedVariables false
set_option linter.unusedSimpArgs false
set_option maxRecDepth 100000
set_option maxHeartbeats 16000000
section
def ZO (kind:Int) (k:Nat):Nat:=if kind=0 then k else if k=0 then 5 else k+2
def Xr (n:Nat) (v:List CellB):List UInt8:=byB ((n:Int) % 5) :: qJ n v
def jQ (kind:Int) (v:List CellB):Nat→List UInt8
 | 0=>[]
 | k+1=>if k=0∨(Xr (ZO kind k) v).length < (jQ kind v k).length then Xr (ZO kind k) v else jQ kind v k
def xK (kind:Int) (l:List CellB):List UInt8:=if jm l=[] then Jb l else Jb l++jQ kind (jm l) 3
theorem Vu (n:Nat) (v:List CellB) (h:∀ c ∈ v,qG c) (hn:v.length≤60):(qJ n v).length≤5000:=by
 have h1:=zC n v h hn v.length
 have hd:∀ c ∈ qU v,qG c:=fun c hc=>h c (XV v v.length (Nat.le_refl _) c hc)
 have hl:(qU v).length≤60:=Nat.le_trans (JE v v.length) hn
 have h2:=AV (qU v) hd hl (qU v).length
 unfold qJ
 rw [List.length_append]
 split<;>simp<;>omega
theorem Ky (kind:Int) (v:List CellB) (h:∀ c ∈ v,qG c) (hn:v.length≤60) (k:Nat):(jQ kind v k).length≤5001:=by
 induction k with
 | zero=>simp [jQ]
 | succ k ih =>
  have:=Vu (ZO kind k) v h hn
  simp only [jQ]
  split
  ·simp only [Xr,List.length_cons];omega
  ·exact ih
end
section
open Go.RowKit
theorem jf {a b c:World} {p:Option Nat} (h:a.grownBy b p) (k:b.grownBy c p):a.grownBy c p :=
 ⟨k.os.trans h.os,k.tape.trans h.tape,k.output.trans h.output,Nat.le_trans h.size k.size,fun i hi hne=>(k.block i (Nat.lt_of_lt_of_le hi h.size) hne).trans (h.block i hi hne)⟩
end
section
open Go.RowKit
theorem Un {n:Int} (h0:0≤n) (h1:n≤9223372036854775807):IntKind.i64.wrap n=n:=IntWalk.i64_in n ⟨by omega,by omega⟩
end
section
open Go.RowKit
theorem VI (tx:List UInt8) (m:Nat) (h:m < tx.length) (h2:m < (⟨tx.toArray⟩:ByteArray).size):(⟨tx.toArray⟩:ByteArray)[m]'h2=tx[m]:=rfl
end
end Go.Proofs.YthhpbhpfagoapabGreat
